/-
  What the laws' texts use, joined.
-/
import Derived.Test.YtbhondjfilohdaaDoorProg
import Derived.WalkKit
import Derived.Laws.BitsAllLaws
import Derived.RowKit
import Derived.ProofKit
import Derived.Lib.Hide
import Derived.Laws.Rows
import Derived.Laws.ResultCell
import Derived.Laws.Entries
import Derived.Handy
import Derived.OwnWalk
import Derived.Laws.OwnMore
import Derived.Deep.Draws
import Derived.Laws.IdiomStrings
import Derived.Lib.BufferRead
import Derived.Maps.OwnSet
import Derived.BigQuiet
import Derived.IntWalk
import Derived.Deep.RegionHeld3
import Derived.BigRegion
import Derived.Lib.OthersKept
import Derived.Lib.QuietBelow
import Derived.Shelf.Strings.Builder1
import Derived.Shelf.Strings.Search1
import Derived.Lib.IndexLaws
import Derived.Laws.Tables
import Derived.Deep.DeepCutAuto
import Derived.Deep.Cut
import Derived.Deep.Slices
import Derived.Test.YtbhondjfilohdaaDoorPk1
/-
  Policies, plainly: rules and their lines, policies and their texts, and what is read of a text.
-/
namespace Go.Proofs.YtbhondjfilohdaaDoor
open Go.RowKit
set_option maxRecDepth 20000

/-- A rule. -/
structure Rl where
  arch : Nat
  nr : Nat
  act : Nat
  conds : List Cd
deriving DecidableEq
/-- A policy. -/
structure Po where
  rules : List Rl
  dflt : Nat
deriving DecidableEq
def Rl.ok (x : Rl) : Prop := x.arch < 4294967296 ∧ x.nr < 4294967296 ∧ x.act < 4294967296 ∧ ∀ c ∈ x.conds, c.ok
def Rl.right (x : Rl) : Bool := decide (x.conds.length ≤ 4) && (actT x.act).isSome && x.conds.all Cd.right
def Po.ok (p : Po) : Prop := p.dflt < 4294967296 ∧ ∀ x ∈ p.rules, x.ok
def Po.right (p : Po) : Bool := decide (p.rules.length ≤ 64) && (actT p.dflt).isSome && p.rules.all Rl.right
def zeroRl : Rl := ⟨0, 0, 0, []⟩
def zeroPo : Po := ⟨[], 0⟩
def bl (b : ByteArray) : List UInt8 := b.data.toList
theorem bl_inj {a b : ByteArray} (h : bl a = bl b) : a = b := ByteArray.ext (Array.ext' h)
/-- The text of an action, nothing where it has none. -/
def actB (v : Nat) : ByteArray := (actT v).getD ⟨#[]⟩
/-! ### Words -/
def wOn : List UInt8 := [111, 110]
def wIf : List UInt8 := [105, 102]
def wAnd : List UInt8 := [97, 110, 100]
def wDefault : List UInt8 := [100, 101, 102, 97, 117, 108, 116]
def glue (k : Nat) : List UInt8 := if k = 0 then wIf else wAnd
def condW (k : Nat) (c : Cd) : List (List UInt8) := [glue k, argW c.arg, numT c.mask, cmpW c.cmp, numT c.value]
def condsW : Nat → List Cd → List (List UInt8)
  | _, [] => []
  | k, c :: cs => condW k c ++ condsW (k + 1) cs
def headW (x : Rl) : List (List UInt8) := [wOn, bl (textN machT x.arch), bl (textN (callT x.arch) x.nr), bl (actB x.act)]
def wordsR (x : Rl) : List (List UInt8) := headW x ++ condsW 0 x.conds
/-- A rule's line. -/
def lineL (x : Rl) : List UInt8 := Ip.join (wordsR x)
def defW (v : Nat) : List (List UInt8) := [wDefault, bl (actB v)]
def lineD (v : Nat) : List UInt8 := Ip.join (defW v)
theorem condsW_len : ∀ (k : Nat) (cs : List Cd), (condsW k cs).length = 5 * cs.length
  | _, [] => rfl
  | k, c :: cs => by
    rw [condsW, List.length_append, condsW_len (k + 1) cs]
    simp [condW]
    omega
theorem wordsR_len (x : Rl) : (wordsR x).length = 4 + 5 * x.conds.length := by
  rw [wordsR, List.length_append, condsW_len]
  rfl
/-! ### What the words are made of -/
/-- Neither a space nor a line's end. -/
def free2 (l : List UInt8) : Prop := ∀ c ∈ l, c ≠ 32 ∧ c ≠ 10
theorem free_hex (n : Nat) : free2 (Wd.hex n) := by
  intro c hc
  obtain ⟨d, hd, rfl⟩ := Wd.hex_mem n c hc
  refine ⟨hexB_32 hd, fun e => ?_⟩
  have e2 := congrArg UInt8.toNat e
  by_cases h10 : d < 10
  · rw [Wd.hexB_lo d h10] at e2
    simp at e2
    omega
  · rw [Wd.hexB_hi d (by omega) hd] at e2
    simp at e2
    omega
theorem free_cons {a : UInt8} {l : List UInt8} (h1 : a ≠ 32) (h2 : a ≠ 10) (h : free2 l) : free2 (a :: l) := by
  intro c hc
  rcases List.mem_cons.1 hc with rfl | hc
  · exact ⟨h1, h2⟩
  · exact h c hc
theorem free_num (n : Nat) : free2 (numT n) := free_cons (by decide) (by decide) (free_cons (by decide) (by decide) (free_hex n))
theorem free_txt (n : Nat) : free2 (bl (Wd.txt n)) := free_num n
def tblFree (T : Tbl) : Bool := T.all fun p => (bl p.1).all fun c => decide (c ≠ 32) && decide (c ≠ 10)
theorem free_textN {T : Tbl} (h : tblFree T = true) (n : Nat) : free2 (bl (textN T n)) := by
  rcases textN_is T n with ⟨p, hp, _, e⟩ | ⟨_, e⟩
  · rw [e]
    unfold tblFree at h
    rw [List.all_eq_true] at h
    have h2 := h p hp
    rw [List.all_eq_true] at h2
    intro c hc
    have h3 := h2 c hc
    simpa using h3
  · rw [e]
    exact free_txt n
theorem machT_free : tblFree machT = true := by decide
theorem callT_free (a : Nat) : tblFree (callT a) = true := by
  unfold callT
  split
  · decide
  split
  · decide
  split
  · decide
  split
  · decide
  rfl
theorem free_app {a b : List UInt8} (ha : free2 a) (hb : free2 b) : free2 (a ++ b) := by
  intro c hc
  rcases List.mem_append.1 hc with h | h
  · exact ha c h
  · exact hb c h
theorem free_dec {l : List UInt8} (h : (l.all fun c => decide (c ≠ 32) && decide (c ≠ 10)) = true) : free2 l := by
  rw [List.all_eq_true] at h
  intro c hc
  simpa using h c hc
theorem free_act (v : Nat) : free2 (bl (actB v)) := by
  unfold actB
  cases h : actT v with
  | none => intro c hc; simp [bl] at hc
  | some s =>
    show free2 (bl s)
    rcases actT_some h with ⟨n, _, _, rfl⟩ | ⟨_, rfl⟩ | ⟨_, rfl⟩ | ⟨_, rfl⟩ | ⟨_, rfl⟩
    · unfold bl
      rw [err_list]
      exact free_app (free_dec (by decide)) (free_txt n)
    all_goals exact free_dec (by decide)
theorem free_arg {k : Int} (h0 : 0 ≤ k) (h5 : k ≤ 5) : free2 (argW k) := by
  rcases six h0 h5 with rfl | rfl | rfl | rfl | rfl | rfl <;> exact free_dec (by decide)
theorem free_cmp (k : Int) : free2 (cmpW k) := by
  unfold cmpW
  repeat' split
  all_goals exact free_dec (by decide)
theorem free_glue (k : Nat) : free2 (glue k) := by
  unfold glue
  split
  all_goals exact free_dec (by decide)
theorem free_condsW : ∀ (k : Nat) (cs : List Cd), (∀ c ∈ cs, c.right = true) → ∀ p ∈ condsW k cs, free2 p
  | _, [], _, p, hp => by simp [condsW] at hp
  | k, c :: cs, h, p, hp => by
    rw [condsW, List.mem_append] at hp
    rcases hp with hp | hp
    · obtain ⟨a0, a5, _, _⟩ := (c.right_iff).1 (h c (by simp))
      unfold condW at hp
      simp only [List.mem_cons, List.not_mem_nil, or_false] at hp
      rcases hp with rfl | rfl | rfl | rfl | rfl
      · exact free_glue k
      · exact free_arg a0 a5
      · exact free_num _
      · exact free_cmp _
      · exact free_num _
    · exact free_condsW (k + 1) cs (fun d hd => h d (by simp [hd])) p hp
theorem right_conds {x : Rl} (h : x.right = true) : x.conds.length ≤ 4 ∧ (actT x.act).isSome = true ∧ ∀ c ∈ x.conds, c.right = true := by
  unfold Rl.right at h
  simp only [Bool.and_eq_true, decide_eq_true_eq, List.all_eq_true] at h
  exact ⟨h.1.1, h.1.2, h.2⟩
theorem rl_right {x : Rl} (h1 : x.conds.length ≤ 4) (h2 : (actT x.act).isSome = true) (h3 : ∀ c ∈ x.conds, c.right = true) : x.right = true := by
  unfold Rl.right
  simp only [Bool.and_eq_true, decide_eq_true_eq, List.all_eq_true]
  exact ⟨⟨h1, h2⟩, h3⟩
theorem free_words {x : Rl} (h : x.right = true) : ∀ p ∈ wordsR x, free2 p := by
  intro p hp
  unfold wordsR headW at hp
  rw [List.mem_append] at hp
  rcases hp with hp | hp
  · simp only [List.mem_cons, List.not_mem_nil, or_false] at hp
    rcases hp with rfl | rfl | rfl | rfl
    · exact free_dec (by decide)
    · exact free_textN machT_free _
    · exact free_textN (callT_free _) _
    · exact free_act _
  · exact free_condsW 0 x.conds (right_conds h).2.2 p hp
theorem cut_line {x : Rl} (h : x.right = true) : Ip.cutAll 32 [] (lineL x) = wordsR x :=
  Ip.cutAll_join _ (by simp [wordsR, headW]) (fun p hp c hc => (free_words h p hp c hc).1)
theorem free_def (v : Nat) : ∀ p ∈ defW v, free2 p := by
  intro p hp
  unfold defW at hp
  simp only [List.mem_cons, List.not_mem_nil, or_false] at hp
  rcases hp with rfl | rfl
  · exact free_dec (by decide)
  · exact free_act _
theorem cut_def (v : Nat) : Ip.cutAll 32 [] (lineD v) = defW v :=
  Ip.cutAll_join _ (by simp [defW]) (fun p hp c hc => (free_def v p hp c hc).1)
theorem join_free : ∀ (ps : List (List UInt8)), (∀ p ∈ ps, free2 p) → ∀ c ∈ Ip.join ps, c ≠ 10
  | [], _, c, hc => by simp [Ip.join] at hc
  | [x], h, c, hc => (h x (by simp) c hc).2
  | x :: y :: l, h, c, hc => by
    have e : Ip.join (x :: y :: l) = x ++ 32 :: Ip.join (y :: l) := rfl
    rw [e, List.mem_append, List.mem_cons] at hc
    rcases hc with hc | rfl | hc
    · exact (h x (by simp) c hc).2
    · decide
    · exact join_free (y :: l) (fun p hp => h p (by simp [hp])) c hc
theorem line_10 {x : Rl} (h : x.right = true) : ∀ c ∈ lineL x, c ≠ 10 := join_free _ (free_words h)
theorem def_10 (v : Nat) : ∀ c ∈ lineD v, c ≠ 10 := join_free _ (free_def v)
/-! ### Unlike rules have unlike lines -/
theorem condsW_inj : ∀ (k : Nat) (cs ds : List Cd), (∀ c ∈ cs, c.right = true) → (∀ c ∈ ds, c.right = true) → condsW k cs = condsW k ds → cs = ds
  | _, [], [], _, _, _ => rfl
  | k, [], d :: ds, _, _, h => by simp [condsW, condW] at h
  | k, c :: cs, [], _, _, h => by simp [condsW, condW] at h
  | k, c :: cs, d :: ds, hc, hd, h => by
    obtain ⟨a0, a5, k0, k5⟩ := (c.right_iff).1 (hc c (by simp))
    obtain ⟨b0, b5, j0, j5⟩ := (d.right_iff).1 (hd d (by simp))
    unfold condsW condW at h
    simp only [List.cons_append, List.nil_append, List.cons.injEq, true_and] at h
    obtain ⟨h1, h2, h3, h4, h5⟩ := h
    have e := condsW_inj (k + 1) cs ds (fun x hx => hc x (by simp [hx])) (fun x hx => hd x (by simp [hx])) h5
    have e1 := argW_inj a0 a5 b0 b5 h1
    have e3 := cmpW_inj k0 k5 j0 j5 h3
    have e2 := numT_inj h2
    have e4 := numT_inj h4
    obtain ⟨_, _, _, _⟩ := c
    obtain ⟨_, _, _, _⟩ := d
    simp_all
theorem actB_inj {v v' : Nat} (h : (actT v).isSome = true) (h' : (actT v').isSome = true) (e : actB v = actB v') : v = v' := by
  obtain ⟨s, hs⟩ := Option.isSome_iff_exists.1 h
  obtain ⟨s', hs'⟩ := Option.isSome_iff_exists.1 h'
  unfold actB at e
  rw [hs, hs'] at e
  have : s = s' := e
  subst this
  exact actT_inj hs hs'
theorem lineL_inj {x y : Rl} (hx : x.right = true) (hy : y.right = true) (h : lineL x = lineL y) : x = y := by
  have hw : wordsR x = wordsR y := by rw [← cut_line hx, ← cut_line hy, h]
  unfold wordsR headW at hw
  simp only [List.cons_append, List.nil_append, List.cons.injEq, true_and] at hw
  obtain ⟨h1, h2, h3, h4⟩ := hw
  have e1 := textN_inj machT_good (bl_inj h1)
  rw [e1] at h2
  have e2 := textN_inj (callT_good _) (bl_inj h2)
  have e3 := actB_inj (right_conds hx).2.1 (right_conds hy).2.1 (bl_inj h3)
  have e4 := condsW_inj 0 _ _ (right_conds hx).2.2 (right_conds hy).2.2 h4
  obtain ⟨_, _, _, _⟩ := x
  obtain ⟨_, _, _, _⟩ := y
  simp_all
theorem lineD_inj {v v' : Nat} (h : (actT v).isSome = true) (h' : (actT v').isSome = true) (e : lineD v = lineD v') : v = v' := by
  have hw : defW v = defW v' := by rw [← cut_def v, ← cut_def v', e]
  unfold defW at hw
  simp only [List.cons.injEq, true_and, and_true] at hw
  exact actB_inj h h' (bl_inj hw)
theorem line_def {x : Rl} (hx : x.right = true) (v : Nat) : lineL x ≠ lineD v := by
  intro e
  have hw : wordsR x = defW v := by rw [← cut_line hx, ← cut_def v, e]
  have := congrArg List.length hw
  rw [wordsR_len] at this
  simp [defW] at this
  omega
/-! ### What is read -/
open Classical in
/-- The rule of a line. -/
noncomputable def readR (l : List UInt8) : Option Rl := if h : ∃ x : Rl, x.ok ∧ x.right = true ∧ l = lineL x then some h.choose else none
theorem readR_some {l : List UInt8} {x : Rl} (h : readR l = some x) : x.ok ∧ x.right = true ∧ l = lineL x := by
  unfold readR at h
  split at h
  · rename_i hx
    obtain rfl := Option.some.inj h
    exact hx.choose_spec
  · cases h
theorem readR_line {x : Rl} (hk : x.ok) (hr : x.right = true) : readR (lineL x) = some x := by
  unfold readR
  split
  · rename_i h
    obtain ⟨_, h2, h3⟩ := h.choose_spec
    exact congrArg some (lineL_inj hr h2 h3).symm
  · rename_i h
    exact absurd ⟨x, hk, hr, rfl⟩ h
theorem readR_is_none {l : List UInt8} (h : ∀ x : Rl, x.ok → x.right = true → l ≠ lineL x) : readR l = none := by
  cases hq : readR l with
  | none => rfl
  | some x =>
    obtain ⟨h1, h2, h3⟩ := readR_some hq
    exact absurd h3 (h x h1 h2)
open Classical in
/-- The default of a line. -/
noncomputable def readD (l : List UInt8) : Option Nat := if h : ∃ v : Nat, v < 4294967296 ∧ (actT v).isSome = true ∧ l = lineD v then some h.choose else none
theorem readD_some {l : List UInt8} {v : Nat} (h : readD l = some v) : v < 4294967296 ∧ (actT v).isSome = true ∧ l = lineD v := by
  unfold readD at h
  split at h
  · rename_i hx
    obtain rfl := Option.some.inj h
    exact hx.choose_spec
  · cases h
theorem readD_line {v : Nat} (hk : v < 4294967296) (hr : (actT v).isSome = true) : readD (lineD v) = some v := by
  unfold readD
  split
  · rename_i h
    obtain ⟨_, h2, h3⟩ := h.choose_spec
    exact congrArg some (lineD_inj hr h2 h3).symm
  · rename_i h
    exact absurd ⟨v, hk, hr, rfl⟩ h
theorem readD_is_none {l : List UInt8} (h : ∀ v : Nat, v < 4294967296 → (actT v).isSome = true → l ≠ lineD v) : readD l = none := by
  cases hq : readD l with
  | none => rfl
  | some v =>
    obtain ⟨h1, h2, h3⟩ := readD_some hq
    exact absurd h3 (h v h1 h2)
theorem readR_def_none (v : Nat) : readR (lineD v) = none := readR_is_none fun _ _ h e => line_def h v e.symm
/-- What comes of the last part. -/
def lastP (size : Nat) (rs : List Rl) (o : Option Nat) (a : Nat) (l : List UInt8) : Po × Nat × Nat :=
  if l = [] then (match o with | none => (zeroPo, size, 5) | some d => (⟨rs, d⟩, 0, 0)) else (zeroPo, a, 2)
/-- What a line that is ended makes of what was read: the rules, and the default; or an error. -/
noncomputable def stepP (rs : List Rl) (l : List UInt8) : (List Rl × Option Nat) ⊕ Nat :=
  match readR l with
  | some x => if 64 ≤ rs.length then .inr 3 else .inl (rs ++ [x], none)
  | none => match readD l with
    | some d => .inl (rs, some d)
    | none => .inr 2
/-- What comes of the lines from one on: the policy, the place, and the error. -/
noncomputable def rdP (size : Nat) : List (List UInt8) → List Rl → Option Nat → Nat → Po × Nat × Nat
  | [], rs, o, a => lastP size rs o a []
  | [l], rs, o, a => lastP size rs o a l
  | l :: m :: ls, rs, o, a => match o with
    | some _ => (zeroPo, a, 2)
    | none => match stepP rs l with
      | .inl q => rdP size (m :: ls) q.1 q.2 (a + l.length + 1)
      | .inr e => (zeroPo, a, e)
theorem rdP_last (size : Nat) (l : List UInt8) (rs : List Rl) (o : Option Nat) (a : Nat) : rdP size [l] rs o a = lastP size rs o a l := by rw [rdP]
theorem rdP_done (size : Nat) (l m : List UInt8) (ls : List (List UInt8)) (rs : List Rl) (d a : Nat) : rdP size (l :: m :: ls) rs (some d) a = (zeroPo, a, 2) := by rw [rdP]
theorem rdP_go {size : Nat} {l m : List UInt8} {ls : List (List UInt8)} {rs rs' : List Rl} {o : Option Nat} {a : Nat} (h : stepP rs l = .inl (rs', o)) : rdP size (l :: m :: ls) rs none a = rdP size (m :: ls) rs' o (a + l.length + 1) := by rw [rdP, h]
theorem rdP_stop {size : Nat} {l m : List UInt8} {ls : List (List UInt8)} {rs : List Rl} {e a : Nat} (h : stepP rs l = .inr e) : rdP size (l :: m :: ls) rs none a = (zeroPo, a, e) := by rw [rdP, h]
theorem stepP_rule {rs : List Rl} {l : List UInt8} {x : Rl} (h : readR l = some x) (hn : rs.length < 64) : stepP rs l = .inl (rs ++ [x], none) := by
  unfold stepP
  rw [h]
  exact if_neg (by omega)
theorem stepP_full {rs : List Rl} {l : List UInt8} {x : Rl} (h : readR l = some x) (hn : 64 ≤ rs.length) : stepP rs l = .inr 3 := by
  unfold stepP
  rw [h]
  exact if_pos hn
theorem stepP_def {rs : List Rl} {l : List UInt8} {d : Nat} (h : readR l = none) (hd : readD l = some d) : stepP rs l = .inl (rs, some d) := by
  unfold stepP
  rw [h, hd]
theorem stepP_no {rs : List Rl} {l : List UInt8} (h : readR l = none) (hd : readD l = none) : stepP rs l = .inr 2 := by
  unfold stepP
  rw [h, hd]
/-- What comes of a text. -/
noncomputable def polT (s : List UInt8) : Po × Nat × Nat := if 20000 < s.length then (zeroPo, 0, 3) else rdP s.length (linesOf s) [] none 0
/-- A policy's text. -/
def textP (p : Po) : List UInt8 := p.rules.flatMap (fun x => lineL x ++ [10]) ++ (lineD p.dflt ++ [10])
/-- Lines that are rules'. -/
theorem rdP_lines (size : Nat) : ∀ (xs rs : List Rl) (a : Nat) (tl : List (List UInt8)), (∀ x ∈ xs, x.ok ∧ x.right = true) → rs.length + xs.length ≤ 64 → tl ≠ [] → ∃ a', rdP size (xs.map lineL ++ tl) rs none a = rdP size tl (rs ++ xs) none a'
  | [], rs, a, tl, _, _, _ => ⟨a, by simp⟩
  | x :: xs, rs, a, tl, h, hn, ht => by
    obtain ⟨h1, h2⟩ := h x (by simp)
    simp only [List.length_cons] at hn
    obtain ⟨a', e⟩ := rdP_lines size xs (rs ++ [x]) (a + (lineL x).length + 1) tl (fun y hy => h y (by simp [hy])) (by rw [List.length_append]; simp; omega) ht
    refine ⟨a', ?_⟩
    rw [List.append_assoc] at e
    rw [show rs ++ x :: xs = rs ++ ([x] ++ xs) from rfl, ← e]
    cases hl : xs.map lineL ++ tl with
    | nil => simp at hl; exact absurd hl.2 ht
    | cons m ls =>
      rw [List.map_cons, List.cons_append, hl]
      exact rdP_go (stepP_rule (readR_line h1 h2) (by omega))
theorem lines_text (xs : List Rl) (tl : List UInt8) (h : ∀ x ∈ xs, x.right = true) : linesOf (xs.flatMap (fun x => lineL x ++ [10]) ++ tl) = xs.map lineL ++ linesOf tl := by
  induction xs with
  | nil => simp
  | cons x xs ih =>
    rw [List.flatMap_cons, List.append_assoc, List.append_assoc, List.singleton_append, lines_cut (line_10 (h x (by simp))), ih fun y hy => h y (by simp [hy])]
    rfl
theorem po_right {p : Po} (h : p.right = true) : p.rules.length ≤ 64 ∧ (actT p.dflt).isSome = true ∧ ∀ x ∈ p.rules, x.right = true := by
  unfold Po.right at h
  simp only [Bool.and_eq_true, decide_eq_true_eq, List.all_eq_true] at h
  exact ⟨h.1.1, h.1.2, h.2⟩
theorem right_po {p : Po} (h1 : p.rules.length ≤ 64) (h2 : (actT p.dflt).isSome = true) (h3 : ∀ x ∈ p.rules, x.right = true) : p.right = true := by
  unfold Po.right
  simp only [Bool.and_eq_true, decide_eq_true_eq, List.all_eq_true]
  exact ⟨⟨h1, h2⟩, h3⟩
theorem lines_nil : linesOf [] = [[]] := rfl
theorem lines_def (v : Nat) (tl : List UInt8) : linesOf (lineD v ++ 10 :: tl) = lineD v :: linesOf tl := lines_cut (def_10 v)
/-- A policy's text is read as it. -/
theorem polT_text {p : Po} (hk : p.ok) (hr : p.right = true) : polT (textP p) = if 20000 < (textP p).length then (zeroPo, 0, 3) else (p, 0, 0) := by
  unfold polT
  split
  · rfl
  obtain ⟨h1, h2, h3⟩ := po_right hr
  have e : linesOf (textP p) = p.rules.map lineL ++ [lineD p.dflt, []] := by
    unfold textP
    rw [lines_text _ _ h3, show lineD p.dflt ++ [10] = lineD p.dflt ++ 10 :: [] from rfl, lines_def, lines_nil]
  rw [e]
  obtain ⟨a', e'⟩ := rdP_lines (textP p).length p.rules [] 0 [lineD p.dflt, []] (fun x hx => ⟨hk.2 x hx, h3 x hx⟩) (by simpa using h1) (by simp)
  rw [e', rdP_go (stepP_def (readR_def_none _) (readD_line hk.1 h2)), rdP_last]
  rfl
end Go.Proofs.YtbhondjfilohdaaDoor
/-
  What a policy says, plainly: which rules fit, which is the first one, which action counts; what a rule more, or two swapped, make of it.
-/
namespace Go.Proofs.YtbhondjfilohdaaDoor
open Go.RowKit
set_option maxRecDepth 20000

/-- Does a rule fit? -/
def fitsR (x : Rl) (d : Rec) : Bool := decide (x.arch = d.arch) && decide (x.nr = d.nr) && x.conds.all (·.holds d)
/-- The first of the rules that fits, counted from o on; -1: there is none. -/
def firstN : List Rl → Nat → Rec → Int
  | [], _, _ => -1
  | x :: rs, o, d => if fitsR x d then (o : Int) else firstN rs (o + 1) d
/-- The action that counts. -/
def judgeR : List Rl → Nat → Rec → Nat
  | [], df, _ => df
  | x :: rs, df, d => if fitsR x d then x.act else judgeR rs df d
theorem firstN_step {rs : List Rl} {k : Nat} (h : k < rs.length) (d : Rec) : firstN (rs.drop k) k d = if fitsR rs[k] d then (k : Int) else firstN (rs.drop (k + 1)) (k + 1) d := by
  rw [List.drop_eq_getElem_cons h]
  rfl
theorem firstN_end {rs : List Rl} {k : Nat} (h : rs.length ≤ k) (d : Rec) : firstN (rs.drop k) k d = -1 := by
  rw [List.drop_eq_nil_of_le h]
  rfl
theorem first_judge (rs : List Rl) (o df : Nat) (d : Rec) : (firstN rs o d = -1 ∧ judgeR rs df d = df) ∨ ∃ (k : Nat) (h : k < rs.length), firstN rs o d = ((o + k : Nat) : Int) ∧ judgeR rs df d = (rs[k]).act := by
  induction rs generalizing o with
  | nil => exact .inl ⟨rfl, rfl⟩
  | cons x rs ih =>
    cases hx : fitsR x d
    · rcases ih (o + 1) with ⟨h1, h2⟩ | ⟨k, hk, h1, h2⟩
      · exact .inl ⟨by rw [firstN, hx]; exact h1, by rw [judgeR, hx]; exact h2⟩
      · refine .inr ⟨k + 1, by simp; omega, ?_, ?_⟩
        · rw [firstN, hx]
          simp only [Bool.false_eq_true, if_false, h1]
          omega
        · rw [judgeR, hx]
          simpa using h2
    · exact .inr ⟨0, by simp, by rw [firstN, hx]; simp, by rw [judgeR, hx]; simp⟩
theorem judge_app (l m : List Rl) (df : Nat) (d : Rec) : judgeR (l ++ m) df d = judgeR l (judgeR m df d) d := by
  induction l with
  | nil => rfl
  | cons x l ih => rw [List.cons_append, judgeR, judgeR, ih]
/-- Where one of them fits, what stands behind makes no difference. -/
theorem judge_met {l : List Rl} {d : Rec} (h : ∃ x ∈ l, fitsR x d = true) (a b : Nat) : judgeR l a d = judgeR l b d := by
  induction l with
  | nil => obtain ⟨_, hx, _⟩ := h; cases hx
  | cons x l ih =>
    rw [judgeR, judgeR]
    cases hx : fitsR x d
    · simp only [Bool.false_eq_true, if_false]
      refine ih ?_
      obtain ⟨y, hy, hf⟩ := h
      rcases List.mem_cons.1 hy with rfl | hy
      · rw [hx] at hf; cases hf
      · exact ⟨y, hy, hf⟩
    · rfl
/-- A rule put in. -/
def putR (rs : List Rl) (k : Nat) (x : Rl) : List Rl := rs.take k ++ x :: rs.drop k
theorem putR_len {rs : List Rl} {k : Nat} (h : k ≤ rs.length) (x : Rl) : (putR rs k x).length = rs.length + 1 := by
  unfold putR
  rw [List.length_append, List.length_cons, List.length_take, List.length_drop]
  omega
theorem putR_last (rs : List Rl) (x : Rl) : putR rs rs.length x = rs ++ [x] := by
  unfold putR
  rw [List.take_length, List.drop_length]
theorem judge_ahead (rs : List Rl) (x : Rl) (df : Nat) (d : Rec) : judgeR (putR rs 0 x) df d = if fitsR x d then x.act else judgeR rs df d := rfl
theorem judge_last (rs : List Rl) (x : Rl) (df : Nat) (d : Rec) (hx : x.act = df) : judgeR (putR rs rs.length x) df d = judgeR rs df d := by
  rw [putR_last, judge_app]
  congr 1
  rw [judgeR, hx]
  split <;> rfl
/-- A rule behind a plain one of the same call. -/
theorem judge_shade (rs : List Rl) (x : Rl) (df a : Nat) (d : Rec) {i k : Nat} (hk : k < i) (hi : i ≤ rs.length) (h : rs[k]? = some ⟨x.arch, x.nr, a, []⟩) : judgeR (putR rs i x) df d = judgeR rs df d := by
  conv => rhs; rw [← List.take_append_drop i rs]
  unfold putR
  rw [judge_app, judge_app]
  cases hx : fitsR x d
  · rw [judgeR, hx]
    rfl
  · refine judge_met ⟨⟨x.arch, x.nr, a, []⟩, ?_, ?_⟩ _ _
    · rw [List.mem_iff_getElem?]
      exact ⟨k, by rw [List.getElem?_take, if_pos hk]; exact h⟩
    · unfold fitsR at hx ⊢
      simp only [Bool.and_eq_true] at hx
      simp only [hx.1, List.all_nil, Bool.and_true]
/-- Two rules swapped. -/
def swapR (rs : List Rl) (i : Nat) (x y : Rl) : List Rl := (rs.set i y).set (i + 1) x
theorem judge_swap {rs : List Rl} {i : Nat} {x y : Rl} (hx : rs[i]? = some x) (hy : rs[i + 1]? = some y) (df : Nat) (d : Rec) (hne : ¬ (x.arch = y.arch ∧ x.nr = y.nr)) : judgeR (swapR rs i x y) df d = judgeR rs df d := by
  have hi1 : i + 1 < rs.length := (List.getElem?_eq_some_iff.1 hy).1
  have e1 : rs = rs.take i ++ x :: y :: rs.drop (i + 2) := by
    conv => lhs; rw [← List.take_append_drop i rs]
    congr 1
    rw [List.drop_eq_getElem_cons (by omega), List.drop_eq_getElem_cons hi1]
    rw [List.getElem?_eq_getElem (by omega)] at hx hy
    simp only [Option.some.injEq] at hx hy
    rw [hx, hy]
  have e2 : swapR rs i x y = rs.take i ++ y :: x :: rs.drop (i + 2) := by
    have hl : (rs.take i).length = i := by rw [List.length_take]; omega
    unfold swapR
    conv => lhs; rw [e1]
    rw [List.set_append_right _ _ (by omega), List.set_append_right _ _ (by omega), hl]
    simp
  rw [e2]
  conv => rhs; rw [e1]
  rw [judge_app, judge_app]
  congr 1
  rw [judgeR, judgeR, judgeR, judgeR]
  cases hfx : fitsR x d <;> cases hfy : fitsR y d <;> try rfl
  exfalso
  unfold fitsR at hfx hfy
  simp only [Bool.and_eq_true, decide_eq_true_eq] at hfx hfy
  exact hne ⟨hfx.1.1.trans hfy.1.1.symm, hfx.1.2.trans hfy.1.2.symm⟩
end Go.Proofs.YtbhondjfilohdaaDoor
/-
  The document's own texts of numbers (package hurdleref01): Text and Parse answer as word's do.
-/
namespace Go.Proofs.YtbhondjfilohdaaDoor
open Go.ChangeShapes Go.WideShapes Go.ChangeAt Go.RowKit
set_option maxRecDepth 20000

/-- A row of one new byte, as a text. -/
theorem conv1 (W : World) (g : Nat) (hg : g = W.heap.size) (v : Int) (b : UInt8) (hv : v = (b.toNat : Int)) :
    (convert 75 9 (.slice (some ⟨g, 0, none⟩) 1 1)).run Tryd.prog (W.alloc (.cells #[.int .u8 v] 5)) = .ok (.string ⟨#[b]⟩) (W.alloc (.cells #[.int .u8 v] 5)) := by
  subst hg
  subst hv
  exact run_convert_bytes_back (P := Tryd.prog) (W.alloc (.cells #[.int .u8 (b.toNat : Int)] 5)) 75 9 5 ⟨W.heap.size, 0, none⟩ 1 [b] Tryd.underlying75 Tryd.underlying5 Tryd.underlying9 (fun j hj => by
    obtain rfl : j = 0 := by simpa using hj
    rw [show (⟨W.heap.size, 0, none⟩ : Addr).add 0 = ⟨W.heap.size, 0, none⟩ by simp [Addr.add], World.cell?_alloc_new]
    rfl)

theorem ofNat_toNat (k : Nat) (h : k < 256) : ((UInt8.ofNat k).toNat : Int) = (k : Int) := by
  simp
  omega

set_option maxHeartbeats 2000000 in
theorem digits_any (n : Nat) : ∀ (_ : n < 18446744073709551616) (w : World),
    Calls Tryd.prog 28 #[.int .u64 n] w fun e w' => e = .returned (.string ⟨(Wd.hex n).toArray⟩) ∧ Below w.heap.size w w' := by
  induction n using Nat.strongRecOn with
  | ind n ih =>
    intro hn w
    have IH := Lib.hid ih
    clear ih
    have b1 := (Below.refl w.heap.size w).alloc (Nat.le_refl _) (Obj.cells #[.int .u8 (48 + (n : Int) % 16)] 5)
    have b2 := b1.alloc b1.size (Obj.cells #[.int .u8 (87 + (n : Int) % 16)] 5)
    by_cases hd : n % 16 ≤ 9
    · have c1 := conv1 w w.heap.size rfl (48 + (n : Int) % 16) (Wd.hexB (n % 16)) (by rw [Wd.hexB_lo _ (by omega)]; omega)
      clear b2
      by_cases h16 : n < 16
      · have hx := Wd.hex_lt h16
        have hmod : n % 16 = n := Nat.mod_eq_of_lt h16
        have hx2 : Wd.hex n = [Wd.hexB (n % 16)] := by rw [hx, hmod]
        have HX := Lib.hid hx2
        clear hmod hx hx2
        go_enter Tryd.func28, Tryd.ntmps28
        go_wp2_with fail
        go_ret
        refine ⟨?_, b1⟩
        rw [HX.out]
        rfl
      · have hx := Lib.hid (Wd.hex_ge (show 16 ≤ n by omega))
        have hl := Wd.hex_len16 (n / 16) (by omega)
        have hcall := IH.out (n / 16) (by omega) (by omega)
        have HC := Lib.hid hcall
        clear hcall IH
        go_enter Tryd.func28, Tryd.ntmps28
        go_wp2_with fail
        refine (HC.out _).mono ?_
        rintro e w' ⟨rfl, hb⟩
        go_wp2_with fail
        go_ret
        refine ⟨?_, b1.trans (hb.mono b1.size)⟩
        rw [hx.out]
        exact congrArg (fun s => Ending.returned (.string s)) (Wd.joined _ _)
    · obtain ⟨z, hz⟩ : ∃ z : UInt8, 48 + (n : Int) % 16 = (z.toNat : Int) := ⟨UInt8.ofNat (48 + n % 16), by rw [ofNat_toNat _ (by omega)]; omega⟩
      have c1 := conv1 w w.heap.size rfl (48 + (n : Int) % 16) z hz
      clear hz
      have c2 := conv1 (w.alloc (.cells #[.int .u8 (48 + (n : Int) % 16)] 5)) (w.heap.size + 1) (by simp) (87 + (n : Int) % 16) (Wd.hexB (n % 16)) (by rw [Wd.hexB_hi _ (by omega) (by omega)]; omega)
      by_cases h16 : n < 16
      · have hx := Wd.hex_lt h16
        have hmod : n % 16 = n := Nat.mod_eq_of_lt h16
        have hx2 : Wd.hex n = [Wd.hexB (n % 16)] := by rw [hx, hmod]
        have HX := Lib.hid hx2
        clear hmod hx hx2
        go_enter Tryd.func28, Tryd.ntmps28
        go_wp2_with fail
        go_ret
        refine ⟨?_, b2⟩
        rw [HX.out]
        rfl
      · have hx := Lib.hid (Wd.hex_ge (show 16 ≤ n by omega))
        have hl := Wd.hex_len16 (n / 16) (by omega)
        have hcall := IH.out (n / 16) (by omega) (by omega)
        have HC := Lib.hid hcall
        clear hcall IH
        go_enter Tryd.func28, Tryd.ntmps28
        go_wp2_with fail
        refine (HC.out _).mono ?_
        rintro e w' ⟨rfl, hb⟩
        go_wp2_with fail
        go_ret
        refine ⟨?_, b2.trans (hb.mono b2.size)⟩
        rw [hx.out]
        exact congrArg (fun s => Ending.returned (.string s)) (Wd.joined _ _)

theorem refText_any (n : Nat) (hn : n < 18446744073709551616) (w : World) :
    Calls Tryd.prog 20 #[.int .u64 n] w fun e w' => e = .returned (.string (Wd.txt n)) ∧ Below w.heap.size w w' := by
  have hl := Wd.hex_len16 n hn
  go_enter Tryd.func20, Tryd.ntmps20
  go_wp2_with fail
  refine (digits_any n hn _).mono ?_
  rintro e w' ⟨rfl, hb⟩
  go_wp2_with fail
  go_ret
  exact ⟨congrArg (fun s => Ending.returned (.string s)) (Wd.joined [48, 120] (Wd.hex n)), hb⟩

end Go.Proofs.YtbhondjfilohdaaDoor
/-
  States, as they lie in a world; what run.cell and run.withCell answer.
-/
namespace Go.Proofs.YtbhondjfilohdaaDoor
open Go.ChangeShapes Go.WideShapes Go.ChangeAt Go.RowKit
set_option maxRecDepth 20000

/-- A state. -/
structure St where
  a : Nat
  x : Nat
  m : List Nat
deriving DecidableEq
def St.ok (s : St) : Prop := s.a ≤ 4294967295 ∧ s.x ≤ 4294967295 ∧ s.m.length = 16 ∧ ∀ v ∈ s.m, v ≤ 4294967295
/-- What is in a cell; 0, if there is none. -/
def mAt (m : List Nat) (i : Nat) : Nat := m.getD i 0
/-- Its eighteen cells (not to be opened by a walk). -/
def stC (s : St) : Array Value := #[.int .u32 s.a, .int .u32 s.x, .int .u32 (mAt s.m 0), .int .u32 (mAt s.m 1), .int .u32 (mAt s.m 2), .int .u32 (mAt s.m 3), .int .u32 (mAt s.m 4), .int .u32 (mAt s.m 5), .int .u32 (mAt s.m 6), .int .u32 (mAt s.m 7), .int .u32 (mAt s.m 8), .int .u32 (mAt s.m 9), .int .u32 (mAt s.m 10), .int .u32 (mAt s.m 11), .int .u32 (mAt s.m 12), .int .u32 (mAt s.m 13), .int .u32 (mAt s.m 14), .int .u32 (mAt s.m 15)]
abbrev St.val (s : St) : Value := .agg (stC s)
/-! ### Rows of a call's own: one that has been written -/
/-- 'w' is written in one row alone, which then holds 'o'. -/
structure RowPut (w w' : World) (g : Nat) (o : Obj) : Prop where
  os : w'.os = w.os
  tape : w'.tape = w.tape
  output : w'.output = w.output
  size : w'.heap.size = w.heap.size
  row : w'.heap[g]? = some o
  rest : ∀ k, k ≠ g → w'.heap[k]? = w.heap[k]?
theorem RowPut.below {w w' a : World} {g B : Nat} {o : Obj} (h : RowPut w w' g o) (hb : Below B a w) (hg : B ≤ g) : Below B a w' :=
  ⟨h.os.trans hb.os, h.tape.trans hb.tape, h.output.trans hb.output, by rw [h.size]; exact hb.size, fun k hk => (h.rest k (by omega)).trans (hb.block k hk)⟩
theorem RowPut.keep {w w' : World} {g k : Nat} {o o' : Obj} (h : RowPut w w' g o) (hk : k ≠ g) (ho : w.heap[k]? = some o') : w'.heap[k]? = some o' := (h.rest k hk).trans ho
theorem rowPut_set {w : World} {g : Nat} {old : Array Value} {t : TypeId} (hg : w.heap[g]? = some (.cells old t)) (cs : Array Value) : RowPut w (w.setRow g cs) g (.cells cs t) :=
  ⟨rfl, rfl, rfl, by unfold World.setRow; simp, setRow_heap w g old cs t (0, 0) hg, fun k hk => setRow_other w g k cs hk⟩
section
variable {ops : Array Oper} {rest : List Oper} {o : Oper} {a : Act} {w : World} {Q : Exit → Act → World → Prop}
end
theorem ka {w : World} {g : Nat} {o : Obj} (o' : Obj) (h : w.heap[g]? = some o) : (w.alloc o').heap[g]? = some o := (Below.heap_alloc w o' g (lt_of_block h)).trans h

theorem kb {w w' : World} {g : Nat} {o : Obj} (hb : Below w.heap.size w w') (h : w.heap[g]? = some o) : w'.heap[g]? = some o := (hb.block _ (lt_of_block h)).trans h
/-- Blocks that a call lays at its head. -/
theorem box2 (w : World) (A B : Obj) : ∃ W, W = (w.alloc A).alloc B ∧ W.heap[w.heap.size]? = some A ∧ W.heap[w.heap.size + 1]? = some B ∧ Below w.heap.size w W :=
  ⟨_, rfl, ka _ (heap_alloc_new _ _), by have h := heap_alloc_new (w.alloc A) B; rw [size_alloc] at h; exact h, ba _ (ba _ (Below.refl _ _))⟩
theorem box3 (w : World) (A B C : Obj) : ∃ W, W = ((w.alloc A).alloc B).alloc C ∧ W.heap[w.heap.size]? = some A ∧ W.heap[w.heap.size + 1]? = some B ∧ W.heap[w.heap.size + 2]? = some C ∧ Below w.heap.size w W := by
  obtain ⟨W, hW, h0, h1, hb⟩ := box2 w A B
  refine ⟨_, rfl, ?_, ?_, ?_, ?_⟩
  · rw [← hW]; exact ka _ h0
  · rw [← hW]; exact ka _ h1
  · have h := heap_alloc_new ((w.alloc A).alloc B) C
    rw [size_alloc, size_alloc] at h
    exact h
  · rw [← hW]; exact ba _ hb
end Go.Proofs.YtbhondjfilohdaaDoor
/-
  The document's own answers on conditions (package hurdleref08): Right, masked, Holds, part.
-/
namespace Go.Proofs.YtbhondjfilohdaaDoor
open Go.ChangeShapes Go.WideShapes Go.ChangeAt Go.RowKit
set_option maxRecDepth 20000

theorem cdX {w : World} {g : Nat} {c : Cd} (h : w.heap[g]? = some (cdB c)) : w.cell? ⟨g, 0, none⟩ = some (.int .i64 c.arg) ∧ w.cell? ⟨g, 1, none⟩ = some (.int .i64 c.cmp) ∧ w.cell? ⟨g, 2, none⟩ = some (.int .u64 (c.mask : Nat)) ∧ w.cell? ⟨g, 3, none⟩ = some (.int .u64 (c.value : Nat)) :=
  ⟨cell_in h 0, cell_in h 1, cell_in h 2, cell_in h 3⟩
theorem rright8_any (c : Cd) (w : World) :
    Calls Tryd.prog 14 #[c.val] w fun e w' => e = .returned (.bool c.right) ∧ Below w.heap.size w w' := by
  have HB := Lib.hid (ba (cdB c) (Below.refl w.heap.size w))
  have HX := Lib.hid (heap_alloc_new w (cdB c))
  obtain ⟨c0, c1, c2, c3⟩ := cdX HX.out
  obtain ⟨arg, cmp, mask, value⟩ := c
  by_cases h0 : 0 ≤ arg
  · by_cases h1 : arg ≤ 5
    · by_cases h2 : 0 ≤ cmp
      · by_cases h3 : cmp ≤ 5
        · have HR : Hid ((⟨arg, cmp, mask, value⟩ : Cd).right = true) := Lib.hid (by rw [Cd.right_iff]; exact ⟨h0, h1, h2, h3⟩)
          go_enter Tryd.func14, Tryd.ntmps14
          go_wp2_with fail
          go_ret
          exact ⟨by rw [HR.out]; rfl, HB.out⟩
        · have HR : Hid ((⟨arg, cmp, mask, value⟩ : Cd).right = false) := Lib.hid (by rw [Bool.eq_false_iff, ne_eq, Cd.right_iff]; simp only; omega)
          go_enter Tryd.func14, Tryd.ntmps14
          go_wp2_with fail
          go_ret
          exact ⟨by rw [HR.out]; rfl, HB.out⟩
      · have HR : Hid ((⟨arg, cmp, mask, value⟩ : Cd).right = false) := Lib.hid (by rw [Bool.eq_false_iff, ne_eq, Cd.right_iff]; simp only; omega)
        go_enter Tryd.func14, Tryd.ntmps14
        go_wp2_with fail
        go_ret
        exact ⟨by rw [HR.out]; rfl, HB.out⟩
    · have HR : Hid ((⟨arg, cmp, mask, value⟩ : Cd).right = false) := Lib.hid (by rw [Bool.eq_false_iff, ne_eq, Cd.right_iff]; simp only; omega)
      go_enter Tryd.func14, Tryd.ntmps14
      go_wp2_with fail
      go_ret
      exact ⟨by rw [HR.out]; rfl, HB.out⟩
  · have HR : Hid ((⟨arg, cmp, mask, value⟩ : Cd).right = false) := Lib.hid (by rw [Bool.eq_false_iff, ne_eq, Cd.right_iff]; simp only; omega)
    go_enter Tryd.func14, Tryd.ntmps14
    go_wp2_with fail
    go_ret
    exact ⟨by rw [HR.out]; rfl, HB.out⟩

end Go.Proofs.YtbhondjfilohdaaDoor
/-
  The document's Words and Print (package hurdleref08).
-/
namespace Go.Proofs.YtbhondjfilohdaaDoor
open Go.ChangeShapes Go.WideShapes Go.ChangeAt Go.RowKit
set_option maxRecDepth 20000

/-! ### A region whose order is drawn, taken by hand -/
section
variable {ops : Array Oper} {Q : Exit → Act → World → Prop} {md : Region.Mode} {S : World → Prop}
variable {o : Oper} {a : Act}
end
def wordT (k : Int) : ByteArray := ⟨(cmpW k).toArray⟩
/-- A condition's text. -/
def textT (c : Cd) : ByteArray := ⟨(textQ c).toArray⟩
end Go.Proofs.YtbhondjfilohdaaDoor
/-
  The document's Parse of a condition (package hurdleref08).
-/
namespace Go.Proofs.YtbhondjfilohdaaDoor
open Go.ChangeShapes Go.WideShapes Go.ChangeAt Go.RowKit
set_option maxRecDepth 20000

theorem cd_right {a k m v : Nat} (ha : a < 6) (hk : k < 6) : (⟨a, k, m, v⟩ : Cd).right = true := by
  rw [Cd.right_iff]
  simp only
  omega
end Go.Proofs.YtbhondjfilohdaaDoor
/-
  What the document's functions of names answer (package hurdleref09).
-/
namespace Go.Proofs.YtbhondjfilohdaaDoor
open Go.ChangeShapes Go.WideShapes Go.ChangeAt Go.RowKit
set_option maxRecDepth 20000

/-- A slice whose elements, of one cell each, are these. -/
def SAt (w : World) (v : Value) (cs : List Value) : Prop :=
  ∃ ao cap, v = .slice ao cs.length cap ∧ cs.length ≤ cap ∧ (cs = [] ∨ ∃ b, ao = some ⟨b, 0, none⟩ ∧ b < w.heap.size ∧ ∀ i u, cs[i]? = some u → w.cell? ⟨b, i, none⟩ = some u)
theorem SAt.below {w w' : World} {v : Value} {cs : List Value} (h : SAt w v cs) (hb : Below w.heap.size w w') : SAt w' v cs := by
  obtain ⟨ao, cap, rfl, hcap, h⟩ := h
  refine ⟨ao, cap, rfl, hcap, h.imp id ?_⟩
  rintro ⟨b, rfl, hl, hc⟩
  exact ⟨b, rfl, Nat.lt_of_lt_of_le hl hb.size, fun i u hi => (hb.cell (p := ⟨b, _, none⟩) hl).trans (hc i u hi)⟩
theorem SAt.own {w : World} {base : Nat} {e : TypeId} {v : Value} {n : Nat} {cs : List Value} (h : w.ownsRow base e 1 v n cs) (hn : n = cs.length) : SAt w v cs := by
  subst hn
  rcases Nat.eq_zero_or_pos cs.length with h0 | h0
  · obtain rfl := List.length_eq_zero_iff.1 h0
    obtain ⟨a, c, rfl⟩ := own_shape h
    exact ⟨a, c, rfl, Nat.zero_le _, .inl rfl⟩
  · obtain ⟨g, c, rfl, _, hl, hc, hx⟩ := own_cells h h0
    exact ⟨_, _, rfl, hc, .inr ⟨g, rfl, hl, hx⟩⟩
theorem SAt.lit {w : World} {g : Nat} {cs : Array Value} {t : TypeId} {fr : Nat × Nat} (h : w.heap[g]? = some (.cells cs t fr)) : SAt w (.slice (some ⟨g, 0, none⟩) cs.size cs.size) cs.toList :=
  ⟨some ⟨g, 0, none⟩, cs.size, by simp, by simp, .inr ⟨g, rfl, lt_of_block h, fun i u hu => by rw [cell_in h i]; simpa using hu⟩⟩
theorem beq_eq {a b : ByteArray} (h : (a.toList == b.toList) = true) : a = b := by
  have h := eq_of_beq h
  rw [Go.ByteArray.toList_eq, Go.ByteArray.toList_eq] at h
  exact ByteArray.ext (Array.ext' h)
theorem beq_ne {a b : ByteArray} (h : a ≠ b) : (a.toList == b.toList) = false := by
  cases q : (a.toList == b.toList)
  · rfl
  · exact absurd (beq_eq q) h
theorem readN_no {T : Tbl} {s : ByteArray} (h : ∀ p ∈ T, p.1 ≠ s) (h2 : ∀ n : Nat, n < 4294967296 → s = Wd.txt n → textN T n ≠ s) : readN T s none := by
  intro n hn e
  rcases textN_is T n with ⟨p, hp, _, e1⟩ | ⟨_, e1⟩
  · exact h p hp (e1.symm.trans e.symm)
  · exact h2 n hn (e.trans e1) e.symm
end Go.Proofs.YtbhondjfilohdaaDoor
/-
  What the document's Calls answers (package hurdleref09).
-/
namespace Go.Proofs.YtbhondjfilohdaaDoor
open Go.ChangeShapes Go.WideShapes Go.ChangeAt Go.RowKit
set_option maxRecDepth 20000

/-- Rows that hold cells of two types lie in two blocks. -/
theorem own_apart {w : World} {base base' : Nat} {e e' : TypeId} {s s' : Nat} {v v' : Value} {n n' : Nat} {xs xs' : List Value} (h : w.ownsRow base e s v n xs) (h' : w.ownsRow base' e' s' v' n' xs') (hne : e ≠ e') : v'.ownBlock = none ∨ v'.ownBlock ≠ v.ownBlock := by
  rcases h.2 with ⟨rfl, _⟩ | ⟨g, c, cur, rfl, _, hh, _⟩ <;> rcases h'.2 with ⟨rfl, _⟩ | ⟨g', c', cur', rfl, _, hh', _⟩
  · exact .inl rfl
  · exact .inr (by simp [Value.ownBlock])
  · exact .inl rfl
  · refine .inr fun e1 => ?_
    have e1 : g' = g := by simpa [Value.ownBlock] using e1
    subst e1
    rw [hh] at hh'
    simp at hh'
    exact hne hh'.2
end Go.Proofs.YtbhondjfilohdaaDoor
/-
  What the document's Call, ReadCall, Action and ReadAction answer (package hurdleref09).
-/
namespace Go.Proofs.YtbhondjfilohdaaDoor
open Go.ChangeShapes Go.WideShapes Go.ChangeAt Go.RowKit
set_option maxRecDepth 20000

/-! ### Actions -/
/-- An action's text, or nothing. -/
def actS (v : Nat) : ByteArray := (actT v).getD ⟨#[]⟩
theorem actS_err {v : Nat} (h1 : 327680 ≤ v) (h2 : v ≤ 331775) : actS v = berror ++ Wd.txt (v - 327680) := by
  unfold actS actT
  rw [if_pos ⟨h1, h2⟩]
  rfl
theorem actS_rest {v : Nat} (h : ¬ (327680 ≤ v ∧ v ≤ 331775)) : actS v = if v = 0 then bkillA else if v = 196608 then btrap else if v = 2147221504 then blog else if v = 2147418112 then ballow else ⟨#[]⟩ := by
  unfold actS actT
  rw [if_neg h]
  split
  · rfl
  split
  · rfl
  split
  · rfl
  split
  · rfl
  rfl
theorem txt_lt18 {n : Nat} (h : n < 18446744073709551616) : (Wd.txt n).size ≤ 18 := by
  have := Wd.hex_len16 n h
  show (48 :: 120 :: Wd.hex n).length ≤ 18
  simp
  omega
set_option maxHeartbeats 2000000 in
theorem raction_any (v : Nat) (w : World) (hv : v < 4294967296) :
    Calls Tryd.prog 13 #[.int .u32 v] w fun e w' => e = .returned (.string (actS v)) ∧ Below w.heap.size w w' := by
  by_cases h : 327680 ≤ v ∧ v ≤ 331775
  · obtain ⟨m, rfl⟩ : ∃ m, v = 327680 + m := ⟨v - 327680, by omega⟩
    have HE := Lib.hid (actS_err h.1 h.2)
    rw [show 327680 + m - 327680 = m by omega] at HE
    have HT := Lib.hid (refText_any m (by omega))
    have hz := txt_lt18 (n := m) (by omega)
    have hzE : (⟨#[101, 114, 114, 111, 114, 58]⟩ : ByteArray).size = 6 := rfl
    have l1 : (327680 : Int) ≤ ((327680 + m : Nat) : Int) := by omega
    have l2 : ((327680 + m : Nat) : Int) ≤ 331775 := by omega
    have l3 : IntKind.u32.wrap (((327680 + m : Nat) : Int) - 327680) = (m : Int) := by unfold IntKind.wrap; simp [IntKind.bits, IntKind.signed]; omega
    obtain ⟨A, hA⟩ : ∃ A : Int, A = ((327680 + m : Nat) : Int) := ⟨_, rfl⟩
    rw [← hA] at l1 l2 l3 ⊢
    clear hA
    generalize Wd.txt m = TX at HT HE hz
    go_enter Tryd.func13, Tryd.ntmps13
    go_wp2_with fail
    refine (HT.out _).mono ?_
    rintro e w1 ⟨rfl, hb1⟩
    have HB1 := Lib.hid hb1
    clear hb1
    go_wp2_with fail
    go_ret
    exact ⟨by rw [HE.out]; rfl, HB1.out⟩
  · have HE := Lib.hid (actS_rest h)
    by_cases h0 : v = 0
    · subst h0
      go_enter Tryd.func13, Tryd.ntmps13
      go_wp2_with fail
      go_ret
      exact ⟨by rw [HE.out]; rfl, Below.refl _ _⟩
    by_cases h1 : v = 196608
    · subst h1
      go_enter Tryd.func13, Tryd.ntmps13
      go_wp2_with fail
      go_ret
      exact ⟨by rw [HE.out]; rfl, Below.refl _ _⟩
    by_cases h2 : v = 2147221504
    · subst h2
      go_enter Tryd.func13, Tryd.ntmps13
      go_wp2_with fail
      go_ret
      exact ⟨by rw [HE.out]; rfl, Below.refl _ _⟩
    by_cases h3 : v = 2147418112
    · subst h3
      go_enter Tryd.func13, Tryd.ntmps13
      go_wp2_with fail
      go_ret
      exact ⟨by rw [HE.out]; rfl, Below.refl _ _⟩
    have q0 : ((v : Int) == 0) = false := by simp; omega
    have q1 : ((v : Int) == 196608) = false := by simp; omega
    have q2 : ((v : Int) == 2147221504) = false := by simp; omega
    have q3 : ((v : Int) == 2147418112) = false := by simp; omega
    have HE2 : Hid (actS v = ⟨#[]⟩) := Lib.hid (by rw [HE.out, if_neg h0, if_neg h1, if_neg h2, if_neg h3])
    clear HE h0 h1 h2 h3
    by_cases hlo : 327680 ≤ v
    · have l1 : (327680 : Int) ≤ (v : Int) := by omega
      have l2 : ¬ (v : Int) ≤ 331775 := by omega
      clear h hlo
      go_enter Tryd.func13, Tryd.ntmps13
      go_wp2_with fail
      go_ret
      exact ⟨by rw [HE2.out]; rfl, Below.refl _ _⟩
    · have l1 : ¬ (327680 : Int) ≤ (v : Int) := by omega
      clear h hlo
      go_enter Tryd.func13, Tryd.ntmps13
      go_wp2_with fail
      go_ret
      exact ⟨by rw [HE2.out]; rfl, Below.refl _ _⟩
end Go.Proofs.YtbhondjfilohdaaDoor
/-
  What the document's ReadAction answers (package hurdleref09).
-/
namespace Go.Proofs.YtbhondjfilohdaaDoor
open Go.ChangeShapes Go.WideShapes Go.ChangeAt Go.RowKit
set_option maxRecDepth 20000

/-- What is an action has a text; what is none has nothing. -/
theorem actS_kinds (v : Nat) : ((actT v).isSome = true ∧ (actS v).toList.isEmpty = false) ∨ ((actT v).isSome = false ∧ actS v = ⟨#[]⟩) := by
  cases h : actT v with
  | none => exact .inr ⟨rfl, by unfold actS; rw [h]; rfl⟩
  | some x =>
    refine .inl ⟨rfl, ?_⟩
    have e : actS v = x := by unfold actS; rw [h]; rfl
    rw [e, Go.ByteArray.toList_eq]
    rcases actT_some h with ⟨n, _, _, rfl⟩ | ⟨_, rfl⟩ | ⟨_, rfl⟩ | ⟨_, rfl⟩ | ⟨_, rfl⟩
    · rw [err_list]
      rfl
    all_goals rfl
end Go.Proofs.YtbhondjfilohdaaDoor
/-
  Conditions, rules and policies that lie in a world.
-/
namespace Go.Proofs.YtbhondjfilohdaaDoor
open Go.ChangeShapes Go.WideShapes Go.ChangeAt Go.RowKit Go.Deep
set_option maxRecDepth 20000

/-- Four cells. -/
abbrev V4 := Value × Value × Value × Value
abbrev V4.cells (x : V4) : List Value := [x.1, x.2.1, x.2.2.1, x.2.2.2]
def qcells (l : List V4) : List Value := l.flatMap V4.cells
theorem qcells_len (l : List V4) : (qcells l).length = l.length * 4 := by
  induction l with
  | nil => rfl
  | cons x l ih => simp [qcells, List.flatMap_cons] at ih ⊢; omega
theorem qcells_app (l m : List V4) : qcells (l ++ m) = qcells l ++ qcells m := by simp [qcells]
theorem qcells_one (x : V4) : qcells [x] = x.cells := by simp [qcells]
theorem qcells_at (l : List V4) (i : Nat) (h : i < l.length) : ∀ j, j < 4 → (qcells l)[i * 4 + j]? = (l[i]).cells[j]? := by
  induction l generalizing i with
  | nil => simp at h
  | cons x l ih =>
    intro j hj
    have e : qcells (x :: l) = x.cells ++ qcells l := by simp [qcells]
    rw [e]
    cases i with
    | zero =>
      rw [List.getElem?_append_left (by simp; omega)]
      simp
    | succ i =>
      rw [List.getElem?_append_right (by simp; omega)]
      simp only [List.getElem_cons_succ]
      rw [← ih i (by simpa using h) j hj]
      congr 1
      simp
      omega
/-- Rows of four cells that lie in a world. -/
def QAt (w : World) (v : Value) (l : List V4) : Prop :=
  ∃ ao cap, v = .slice ao l.length cap ∧ (l = [] ∨ ∃ b off, ao = some ⟨b, off, none⟩ ∧ b < w.heap.size ∧ ∀ i (h : i < l.length),
    w.cell? ⟨b, off + i * 4, none⟩ = some (l[i]).1 ∧ w.cell? ⟨b, off + i * 4 + 1, none⟩ = some (l[i]).2.1 ∧ w.cell? ⟨b, off + i * 4 + 2, none⟩ = some (l[i]).2.2.1 ∧ w.cell? ⟨b, off + i * 4 + 3, none⟩ = some (l[i]).2.2.2)
theorem QAt.nil (w : World) : QAt w (.slice none 0 0) [] := ⟨none, 0, rfl, .inl rfl⟩
theorem QAt.below {w w' : World} {v : Value} {l : List V4} (h : QAt w v l) (hb : Below w.heap.size w w') : QAt w' v l := by
  obtain ⟨ao, cap, rfl, h⟩ := h
  refine ⟨ao, cap, rfl, h.imp id ?_⟩
  rintro ⟨b, off, rfl, hl, hc⟩
  refine ⟨b, off, rfl, Nat.lt_of_lt_of_le hl hb.size, fun i hi => ?_⟩
  obtain ⟨c0, c1, c2, c3⟩ := hc i hi
  exact ⟨(hb.cell (p := ⟨b, _, none⟩) hl).trans c0, (hb.cell (p := ⟨b, _, none⟩) hl).trans c1, (hb.cell (p := ⟨b, _, none⟩) hl).trans c2, (hb.cell (p := ⟨b, _, none⟩) hl).trans c3⟩
theorem QAt.of_cells {w : World} {b off cap : Nat} {l : List V4} (hb : l ≠ [] → b < w.heap.size) (h : ∀ i u, (qcells l)[i]? = some u → w.cell? ⟨b, off + i, none⟩ = some u) : QAt w (.slice (some ⟨b, off, none⟩) l.length cap) l := by
  refine ⟨_, _, rfl, ?_⟩
  by_cases h0 : l = []
  · exact .inl h0
  · refine .inr ⟨b, off, rfl, hb h0, fun i hi => ⟨?_, ?_, ?_, ?_⟩⟩
    · have := qcells_at l i hi 0 (by omega)
      exact h _ _ this
    · have := qcells_at l i hi 1 (by omega)
      rw [Nat.add_assoc]
      exact h _ _ this
    · have := qcells_at l i hi 2 (by omega)
      rw [Nat.add_assoc]
      exact h _ _ this
    · have := qcells_at l i hi 3 (by omega)
      rw [Nat.add_assoc]
      exact h _ _ this
theorem QAt.own {w : World} {base : Nat} {e : TypeId} {v : Value} {n : Nat} {l : List V4} (h : w.ownsRow base e 4 v n (qcells l)) (hn : n = l.length) : QAt w v l := by
  subst hn
  rcases h.2 with ⟨rfl, h0⟩ | ⟨g, cap, cur, rfl, _, hg, _, _, _, ht⟩
  · obtain rfl := List.length_eq_zero_iff.1 h0
    exact QAt.nil w
  · refine QAt.of_cells (fun _ => lt_of_block hg) fun i u hu => ?_
    rw [Nat.zero_add, cell_in hg i, ← Array.getElem?_toList]
    have hi := (List.getElem?_eq_some_iff.1 hu).1
    rw [qcells_len] at hi
    rw [← ht, List.getElem?_take, if_pos (by omega)] at hu
    exact hu
theorem QAt.shape {w : World} {v : Value} {l : List V4} (h : QAt w v l) : ∃ ao cap, v = .slice ao l.length cap := by
  obtain ⟨ao, cap, rfl, _⟩ := h
  exact ⟨ao, cap, rfl⟩
/-- One of the rows. -/
theorem QAt.row {w : World} {v : Value} {l : List V4} (h : QAt w v l) {i : Nat} (hi : i < l.length) : ∃ b off cap, v = .slice (some ⟨b, off, none⟩) l.length cap ∧ b < w.heap.size ∧
    w.cell? ⟨b, off + i * 4, none⟩ = some (l[i]).1 ∧ w.cell? ⟨b, off + i * 4 + 1, none⟩ = some (l[i]).2.1 ∧ w.cell? ⟨b, off + i * 4 + 2, none⟩ = some (l[i]).2.2.1 ∧ w.cell? ⟨b, off + i * 4 + 3, none⟩ = some (l[i]).2.2.2 := by
  obtain ⟨ao, cap, rfl, h⟩ := h
  rcases h with rfl | ⟨b, off, rfl, hb, hc⟩
  · simp at hi
  · exact ⟨b, off, cap, rfl, hb, hc i hi⟩
/-! ### Conditions -/
abbrev cdQ (c : Cd) : V4 := (.int .i64 c.arg, .int .i64 c.cmp, .int .u64 (c.mask : Nat), .int .u64 (c.value : Nat))
def CAt (w : World) (v : Value) (cs : List Cd) : Prop := QAt w v (cs.map cdQ)
theorem CAt.nil (w : World) : CAt w (.slice none 0 0) [] := QAt.nil w
theorem CAt.below {w w' : World} {v : Value} {cs : List Cd} (h : CAt w v cs) (hb : Below w.heap.size w w') : CAt w' v cs := QAt.below h hb
theorem CAt.shape {w : World} {v : Value} {cs : List Cd} (h : CAt w v cs) : ∃ ao cap, v = .slice ao cs.length cap := by
  obtain ⟨ao, cap, e⟩ := QAt.shape h
  exact ⟨ao, cap, by rw [e, List.length_map]⟩
theorem CAt.row {w : World} {v : Value} {cs : List Cd} (h : CAt w v cs) {i : Nat} (hi : i < cs.length) : ∃ b off cap, v = .slice (some ⟨b, off, none⟩) cs.length cap ∧ b < w.heap.size ∧
    w.cell? ⟨b, off + i * 4, none⟩ = some (.int .i64 (cs[i]).arg) ∧ w.cell? ⟨b, off + i * 4 + 1, none⟩ = some (.int .i64 (cs[i]).cmp) ∧ w.cell? ⟨b, off + i * 4 + 2, none⟩ = some (.int .u64 ((cs[i]).mask : Nat)) ∧ w.cell? ⟨b, off + i * 4 + 3, none⟩ = some (.int .u64 ((cs[i]).value : Nat)) := by
  obtain ⟨b, off, cap, e, hb, c0, c1, c2, c3⟩ := QAt.row h (i := i) (by rw [List.length_map]; exact hi)
  rw [List.getElem_map] at c0 c1 c2 c3
  exact ⟨b, off, cap, by rw [e, List.length_map], hb, c0, c1, c2, c3⟩
/-! ### Rules -/
abbrev rlQ (p : Rl × Value) : V4 := (.int .u32 (p.1.arch : Nat), .int .u32 (p.1.nr : Nat), p.2, .int .u32 (p.1.act : Nat))
/-- A rule's value, its conditions lying elsewhere. -/
abbrev Rl.val (x : Rl) (cv : Value) : Value := .agg #[.int .u32 (x.arch : Nat), .int .u32 (x.nr : Nat), cv, .int .u32 (x.act : Nat)]
abbrev rlB (x : Rl) (cv : Value) : Obj := .cells #[.int .u32 (x.arch : Nat), .int .u32 (x.nr : Nat), cv, .int .u32 (x.act : Nat)] 28
def LAt (w : World) (v : Value) (rs : List Rl) : Prop := ∃ l : List (Rl × Value), rs = l.map (·.1) ∧ QAt w v (l.map rlQ) ∧ ∀ p ∈ l, CAt w p.2 p.1.conds
theorem LAt.nil (w : World) : LAt w (.slice none 0 0) [] := ⟨[], rfl, QAt.nil w, by simp⟩
theorem LAt.below {w w' : World} {v : Value} {rs : List Rl} (h : LAt w v rs) (hb : Below w.heap.size w w') : LAt w' v rs := by
  obtain ⟨l, e, h1, h2⟩ := h
  exact ⟨l, e, h1.below hb, fun p hp => (h2 p hp).below hb⟩
theorem LAt.shape {w : World} {v : Value} {rs : List Rl} (h : LAt w v rs) : ∃ ao cap, v = .slice ao rs.length cap := by
  obtain ⟨l, e, h1, _⟩ := h
  obtain ⟨ao, cap, e2⟩ := h1.shape
  exact ⟨ao, cap, by rw [e2, e, List.length_map, List.length_map]⟩
theorem LAt.row {w : World} {v : Value} {rs : List Rl} (h : LAt w v rs) {i : Nat} (hi : i < rs.length) : ∃ b off cap cv, v = .slice (some ⟨b, off, none⟩) rs.length cap ∧ b < w.heap.size ∧ CAt w cv (rs[i]).conds ∧
    w.cell? ⟨b, off + i * 4, none⟩ = some (.int .u32 ((rs[i]).arch : Nat)) ∧ w.cell? ⟨b, off + i * 4 + 1, none⟩ = some (.int .u32 ((rs[i]).nr : Nat)) ∧ w.cell? ⟨b, off + i * 4 + 2, none⟩ = some cv ∧ w.cell? ⟨b, off + i * 4 + 3, none⟩ = some (.int .u32 ((rs[i]).act : Nat)) := by
  obtain ⟨l, rfl, h1, h2⟩ := h
  rw [List.length_map] at hi
  obtain ⟨b, off, cap, e, hb, c0, c1, c2, c3⟩ := h1.row (i := i) (by rw [List.length_map]; exact hi)
  rw [List.getElem_map] at c0 c1 c2 c3
  refine ⟨b, off, cap, (l[i]).2, by rw [e, List.length_map, List.length_map], hb, ?_, ?_⟩
  · rw [List.getElem_map]
    exact h2 _ (List.getElem_mem hi)
  · rw [List.getElem_map]
    exact ⟨c0, c1, c2, c3⟩
/-! ### Policies -/
abbrev poV (rv : Value) (d : Nat) : Value := .agg #[rv, .int .u32 (d : Nat)]
abbrev poB (rv : Value) (d : Nat) : Obj := .cells #[rv, .int .u32 (d : Nat)] 25
theorem pbox {w : World} {g : Nat} {rv : Value} {d : Nat} (h : w.heap[g]? = some (poB rv d)) : w.cell? ⟨g, 0, none⟩ = some rv ∧ w.cell? ⟨g, 1, none⟩ = some (.int .u32 (d : Nat)) := ⟨cell_in h 0, cell_in h 1⟩
theorem rbox {w : World} {g : Nat} {x : Rl} {cv : Value} (h : w.heap[g]? = some (rlB x cv)) : w.cell? ⟨g, 0, none⟩ = some (.int .u32 (x.arch : Nat)) ∧ w.cell? ⟨g, 1, none⟩ = some (.int .u32 (x.nr : Nat)) ∧ w.cell? ⟨g, 2, none⟩ = some cv ∧ w.cell? ⟨g, 3, none⟩ = some (.int .u32 (x.act : Nat)) := ⟨cell_in h 0, cell_in h 1, cell_in h 2, cell_in h 3⟩
/-! ### A policy that came in -/
theorem cellsCond : Tryd.prog.cellsOf 46 = 4 := by kernel_rfl
theorem cellsRule : Tryd.prog.cellsOf 28 = 4 := by kernel_rfl
theorem cellsPolicy : Tryd.prog.cellsOf 25 = 2 := by kernel_rfl
section
variable {H : Type} {enc : TypeId × Value → H} {W : World}
theorem trod_i64 {n : Nat} {c : Value} {y : DataW H × List MemPlace} (h : DataW.trod enc Tryd.prog W 0 (fun _ => true) true n 3 [c] = some y) : ∃ k : Int, c = .int .i64 k := by
  obtain ⟨z, e, _, _⟩ := DataW.trod_int Tryd.underlying3 h
  simp only [List.cons.injEq, and_true] at e
  exact ⟨z, e⟩
theorem trod_u64 {n : Nat} {c : Value} {y : DataW H × List MemPlace} (h : DataW.trod enc Tryd.prog W 0 (fun _ => true) true n 29 [c] = some y) : ∃ k : Nat, c = .int .u64 (k : Nat) ∧ k < 18446744073709551616 := by
  obtain ⟨z, e, _, g⟩ := DataW.trod_int Tryd.underlying29 h
  simp only [List.cons.injEq, and_true] at e
  have b := bounds_u64 g
  exact ⟨z.toNat, by rw [e, show ((z.toNat : Nat) : Int) = z by omega], by omega⟩
theorem trod_u32 {n : Nat} {c : Value} {y : DataW H × List MemPlace} (h : DataW.trod enc Tryd.prog W 0 (fun _ => true) true n 23 [c] = some y) : ∃ k : Nat, c = .int .u32 (k : Nat) ∧ k < 4294967296 := by
  obtain ⟨z, e, _, g⟩ := DataW.trod_int Tryd.underlying23 h
  simp only [List.cons.injEq, and_true] at e
  have b := bounds_u32 g
  exact ⟨z.toNat, by rw [e, show ((z.toNat : Nat) : Int) = z by omega], by omega⟩
theorem open_conds {n : Nat} {v : Value} {y : DataW H × List MemPlace} (h : DataW.trod enc Tryd.prog W 0 (fun _ => true) true n 26 [v] = some y) : ∃ cs : List Cd, CAt W v cs ∧ (∀ c ∈ cs, c.ok) ∧ cs.length ≤ 9223372036854775807 := by
  obtain ⟨d, p⟩ := y
  rcases open_slice Tryd.underlying26 h with ⟨hcs, _⟩ | ⟨a, len', cap', m, n, D, Pl, hcs, _, hl, hm, hmm, _, hi⟩
  · obtain rfl := (List.cons.inj hcs).1
    exact ⟨[], CAt.nil W, by simp, by simp⟩
  · obtain rfl := (List.cons.inj hcs).1
    simp only [if_true] at hmm
    unfold maxLen at hm
    rw [cellsCond] at hi
    have hall : ∀ i, i < len' → ∃ c : Cd, c.ok ∧ W.cell? (a.add (i * 4)) = some (.int .i64 c.arg) ∧ W.cell? ((a.add (i * 4)).add 1) = some (.int .i64 c.cmp) ∧ W.cell? ((a.add (i * 4)).add 2) = some (.int .u64 (c.mask : Nat)) ∧ W.cell? ((a.add (i * 4)).add 3) = some (.int .u64 (c.value : Nat)) := by
      intro i hil
      obtain ⟨cs', hc, ht'⟩ := hi i (by omega)
      obtain ⟨ys, n', _, _, hlen, hyl, hff⟩ := DataW.trod_struct Tryd.underlying46 ht'
      obtain ⟨_, hcl, hat⟩ := World.cells?_some hc
      rw [cellsCond] at hlen
      match cs', hlen with
      | [c0, c1, c2, c3], _ =>
        have hy4 : ys.length = 4 := hyl
        match ys, hy4 with
        | [y0, y1, y2, y3], _ =>
          have h0 : DataW.trod enc Tryd.prog W 0 (fun _ => true) true n' 3 [c0] = some y0 := hff 0 _ rfl
          have h1 : DataW.trod enc Tryd.prog W 0 (fun _ => true) true n' 3 [c1] = some y1 := hff 1 _ rfl
          have h2 : DataW.trod enc Tryd.prog W 0 (fun _ => true) true n' 29 [c2] = some y2 := hff 2 _ rfl
          have h3 : DataW.trod enc Tryd.prog W 0 (fun _ => true) true n' 29 [c3] = some y3 := hff 3 _ rfl
          obtain ⟨k0, rfl⟩ := trod_i64 h0
          obtain ⟨k1, rfl⟩ := trod_i64 h1
          obtain ⟨k2, rfl, b2⟩ := trod_u64 h2
          obtain ⟨k3, rfl, b3⟩ := trod_u64 h3
          have g0 := hat 0 (by omega)
          have g1 := hat 1 (by omega)
          have g2 := hat 2 (by omega)
          have g3 := hat 3 (by omega)
          refine ⟨⟨k0, k1, k2, k3⟩, ⟨b2, b3⟩, ?_, g1, g2, g3⟩
          simpa [Addr.add] using g0
    obtain ⟨l, hll, hq⟩ := pick_list len' hall
    subst hll
    refine ⟨l, ⟨some a, cap', by rw [List.length_map], ?_⟩, ?_, by omega⟩
    · by_cases h0 : l = []
      · exact .inl (by rw [h0]; rfl)
      · have hpos : 0 < l.length := List.length_pos_iff.2 h0
        obtain ⟨ab, ao, spot⟩ := a
        obtain ⟨_, q0, _⟩ := hq 0 hpos
        have hspot : spot = none := by simpa [Addr.add] using World.cell?_spot q0
        subst hspot
        refine .inr ⟨ab, ao, rfl, ?_, fun i hi' => ?_⟩
        · apply Nat.lt_of_not_le
          intro hle
          have e : W.heap[ab]? = none := by simp; exact hle
          rw [Addr.add_lit] at q0
          simp [World.cell?, e] at q0
        · rw [List.length_map] at hi'
          obtain ⟨_, q0, q1, q2, q3⟩ := hq i hi'
          rw [Addr.add_lit] at q0 q1 q2 q3
          rw [Addr.add_lit] at q1 q2 q3
          rw [List.getElem_map]
          exact ⟨q0, q1, q2, q3⟩
    · intro x hx
      obtain ⟨i, hi', rfl⟩ := List.getElem_of_mem hx
      exact (hq i hi').1
theorem open_rules {n : Nat} {v : Value} {y : DataW H × List MemPlace} (h : DataW.trod enc Tryd.prog W 0 (fun _ => true) true n 22 [v] = some y) : ∃ rs : List Rl, LAt W v rs ∧ (∀ x ∈ rs, x.ok ∧ x.conds.length ≤ 9223372036854775807) ∧ rs.length ≤ 9223372036854775807 := by
  obtain ⟨d, p⟩ := y
  rcases open_slice Tryd.underlying22 h with ⟨hcs, _⟩ | ⟨a, len', cap', m, n, D, Pl, hcs, _, hl, hm, hmm, _, hi⟩
  · obtain rfl := (List.cons.inj hcs).1
    exact ⟨[], LAt.nil W, by simp, by simp⟩
  · obtain rfl := (List.cons.inj hcs).1
    simp only [if_true] at hmm
    unfold maxLen at hm
    rw [cellsRule] at hi
    have hall : ∀ i, i < len' → ∃ q : Rl × Value, (q.1.ok ∧ q.1.conds.length ≤ 9223372036854775807 ∧ CAt W q.2 q.1.conds) ∧ W.cell? (a.add (i * 4)) = some (.int .u32 (q.1.arch : Nat)) ∧ W.cell? ((a.add (i * 4)).add 1) = some (.int .u32 (q.1.nr : Nat)) ∧ W.cell? ((a.add (i * 4)).add 2) = some q.2 ∧ W.cell? ((a.add (i * 4)).add 3) = some (.int .u32 (q.1.act : Nat)) := by
      intro i hil
      obtain ⟨cs', hc, ht'⟩ := hi i (by omega)
      obtain ⟨ys, n', _, _, hlen, hyl, hff⟩ := DataW.trod_struct Tryd.underlying28 ht'
      obtain ⟨_, hcl, hat⟩ := World.cells?_some hc
      rw [cellsRule] at hlen
      match cs', hlen with
      | [c0, c1, c2, c3], _ =>
        have hy4 : ys.length = 4 := hyl
        match ys, hy4 with
        | [y0, y1, y2, y3], _ =>
          have h0 : DataW.trod enc Tryd.prog W 0 (fun _ => true) true n' 23 [c0] = some y0 := hff 0 _ rfl
          have h1 : DataW.trod enc Tryd.prog W 0 (fun _ => true) true n' 23 [c1] = some y1 := hff 1 _ rfl
          have h2 : DataW.trod enc Tryd.prog W 0 (fun _ => true) true n' 26 [c2] = some y2 := hff 2 _ rfl
          have h3 : DataW.trod enc Tryd.prog W 0 (fun _ => true) true n' 23 [c3] = some y3 := hff 3 _ rfl
          obtain ⟨k0, rfl, b0⟩ := trod_u32 h0
          obtain ⟨k1, rfl, b1⟩ := trod_u32 h1
          obtain ⟨cs, hcs, hok, hln⟩ := open_conds h2
          obtain ⟨k3, rfl, b3⟩ := trod_u32 h3
          have g0 := hat 0 (by omega)
          have g1 := hat 1 (by omega)
          have g2 := hat 2 (by omega)
          have g3 := hat 3 (by omega)
          refine ⟨(⟨k0, k1, k3, cs⟩, c2), ⟨⟨b0, b1, b3, hok⟩, hln, hcs⟩, ?_, g1, g2, g3⟩
          simpa [Addr.add] using g0
    obtain ⟨l, hll, hq⟩ := pick_list len' hall
    subst hll
    refine ⟨l.map (·.1), ⟨l, rfl, ⟨some a, cap', by rw [List.length_map], ?_⟩, ?_⟩, ?_, by rw [List.length_map]; omega⟩
    · by_cases h0 : l = []
      · exact .inl (by rw [h0]; rfl)
      · have hpos : 0 < l.length := List.length_pos_iff.2 h0
        obtain ⟨ab, ao, spot⟩ := a
        obtain ⟨_, q0, _⟩ := hq 0 hpos
        have hspot : spot = none := by simpa [Addr.add] using World.cell?_spot q0
        subst hspot
        refine .inr ⟨ab, ao, rfl, ?_, fun i hi' => ?_⟩
        · apply Nat.lt_of_not_le
          intro hle
          have e : W.heap[ab]? = none := by simp; exact hle
          rw [Addr.add_lit] at q0
          simp [World.cell?, e] at q0
        · rw [List.length_map] at hi'
          obtain ⟨_, q0, q1, q2, q3⟩ := hq i hi'
          rw [Addr.add_lit] at q0 q1 q2 q3
          rw [Addr.add_lit] at q1 q2 q3
          rw [List.getElem_map]
          exact ⟨q0, q1, q2, q3⟩
    · intro p hp
      obtain ⟨i, hi', rfl⟩ := List.getElem_of_mem hp
      exact (hq i hi').1.2.2
    · intro x hx
      obtain ⟨p, hp, rfl⟩ := List.mem_map.1 hx
      obtain ⟨i, hi', rfl⟩ := List.getElem_of_mem hp
      exact ⟨(hq i hi').1.1, (hq i hi').1.2.1⟩
theorem open_policy {base : Nat} {v : Value} {d : DataW H} {p : List MemPlace} (hval : Value.okWide Tryd.prog W .any base 25 v) (h : DataW.Trod enc Tryd.prog W 0 (fun _ => true) true 25 v d p) : ∃ (q : Po) (rv : Value), v = poV rv q.dflt ∧ LAt W rv q.rules ∧ q.ok ∧ q.rules.length ≤ 9223372036854775807 ∧ ∀ x ∈ q.rules, x.conds.length ≤ 9223372036854775807 := by
  obtain ⟨cs, rfl, hsz⟩ := okWide_struct Tryd.underlying25 hval
  rw [cellsPolicy] at hsz
  obtain ⟨c0, c1, hc⟩ : ∃ c0 c1, cs = #[c0, c1] := by
    obtain ⟨l⟩ := cs
    match l, hsz with
    | [c0, c1], _ => exact ⟨c0, c1, rfl⟩
  subst hc
  obtain ⟨fuel, hf⟩ := h
  obtain ⟨ys, n, _, _, _, hyl, hff⟩ := DataW.trod_struct Tryd.underlying25 hf
  have hy2 : ys.length = 2 := hyl
  match ys, hy2 with
  | [y0, y1], _ =>
    have h0 : DataW.trod enc Tryd.prog W 0 (fun _ => true) true n 22 [c0] = some y0 := hff 0 _ rfl
    have h1 : DataW.trod enc Tryd.prog W 0 (fun _ => true) true n 23 [c1] = some y1 := hff 1 _ rfl
    obtain ⟨rs, hL, hok, hln⟩ := open_rules h0
    obtain ⟨k1, rfl, b1⟩ := trod_u32 h1
    exact ⟨⟨rs, k1⟩, c0, rfl, hL, ⟨b1, fun x hx => (hok x hx).1⟩, hln, fun x hx => (hok x hx).2⟩
end
end Go.Proofs.YtbhondjfilohdaaDoor
/-
  The document's Right of a policy (package hurdleref10).
-/
namespace Go.Proofs.YtbhondjfilohdaaDoor
open Go.ChangeShapes Go.WideShapes Go.ChangeAt Go.RowKit
set_option maxRecDepth 20000

theorem LAt.rows {w : World} {v : Value} {rs : List Rl} (h : LAt w v rs) : ∃ ao cap, v = .slice ao rs.length cap ∧ ∀ i (hi : i < rs.length), ∃ b off cv, ao = some ⟨b, off, none⟩ ∧ b < w.heap.size ∧ CAt w cv (rs[i]).conds ∧
    w.cell? ⟨b, off + i * 4, none⟩ = some (.int .u32 ((rs[i]).arch : Nat)) ∧ w.cell? ⟨b, off + i * 4 + 1, none⟩ = some (.int .u32 ((rs[i]).nr : Nat)) ∧ w.cell? ⟨b, off + i * 4 + 2, none⟩ = some cv ∧ w.cell? ⟨b, off + i * 4 + 3, none⟩ = some (.int .u32 ((rs[i]).act : Nat)) := by
  obtain ⟨ao, cap, e⟩ := h.shape
  refine ⟨ao, cap, e, fun i hi => ?_⟩
  obtain ⟨b, off, cap', cv, e', hb, hc, d⟩ := h.row hi
  rw [e] at e'
  simp only [Value.slice.injEq] at e'
  exact ⟨b, off, cv, e'.1, hb, hc, d⟩
theorem CAt.rows {w : World} {v : Value} {cs : List Cd} (h : CAt w v cs) : ∃ ao cap, v = .slice ao cs.length cap ∧ ∀ i (hi : i < cs.length), ∃ b off, ao = some ⟨b, off, none⟩ ∧ b < w.heap.size ∧
    w.cell? ⟨b, off + i * 4, none⟩ = some (.int .i64 (cs[i]).arg) ∧ w.cell? ⟨b, off + i * 4 + 1, none⟩ = some (.int .i64 (cs[i]).cmp) ∧ w.cell? ⟨b, off + i * 4 + 2, none⟩ = some (.int .u64 ((cs[i]).mask : Nat)) ∧ w.cell? ⟨b, off + i * 4 + 3, none⟩ = some (.int .u64 ((cs[i]).value : Nat)) := by
  obtain ⟨ao, cap, e⟩ := h.shape
  refine ⟨ao, cap, e, fun i hi => ?_⟩
  obtain ⟨b, off, cap', e', hb, d⟩ := h.row hi
  rw [e] at e'
  simp only [Value.slice.injEq] at e'
  exact ⟨b, off, e'.1, hb, d⟩
theorem act_empty {v : Nat} : ((actS v).toList.isEmpty = true ∧ (actT v).isSome = false) ∨ ((actS v).toList.isEmpty = false ∧ (actT v).isSome = true) := by
  rcases actS_kinds v with ⟨h1, h2⟩ | ⟨h1, h2⟩
  · exact .inr ⟨h2, h1⟩
  · exact .inl ⟨by rw [h2, Go.ByteArray.toList_eq]; rfl, h1⟩
theorem take_all_succ {α : Type} {P : α → Bool} {l : List α} {n : Nat} (hn : n < l.length) (h : (l.take n).all P = true) (hr : P l[n] = true) : (l.take (n + 1)).all P = true := by
  rw [List.take_succ_eq_append_getElem hn, List.all_append, h]
  simp [hr]
theorem take_all_end {α : Type} {P : α → Bool} {l : List α} {n : Nat} (hn : l.length ≤ n) (h : (l.take n).all P = true) : l.all P = true := by rwa [List.take_of_length_le hn] at h
theorem not_all {α : Type} {P : α → Bool} {l : List α} {n : Nat} (hn : n < l.length) (hr : P l[n] = false) : l.all P = false := by
  rw [List.all_eq_false]
  exact ⟨_, List.getElem_mem hn, by rw [hr]; simp⟩
set_option maxHeartbeats 8000000 in
theorem rright10_any (rv : Value) (p : Po) (w : World) (hL : LAt w rv p.rules) (hk : p.ok) (hl : p.rules.length ≤ 9223372036854775807) (hl2 : ∀ x ∈ p.rules, x.conds.length ≤ 9223372036854775807) :
    Calls Tryd.prog 7 #[poV rv p.dflt] w fun e w' => e = .returned (.bool p.right) ∧ Below w.heap.size w w' := by
  obtain ⟨rs, d⟩ := p
  simp only at hL hl hl2
  obtain ⟨hd, hok⟩ := hk
  simp only at hd hok
  obtain ⟨ao, cap, rfl, hrows⟩ := hL.rows
  have HROW := Lib.hid hrows
  have HX0 := Lib.hid (heap_alloc_new w (poB (.slice ao rs.length cap) d))
  have HB0 := Lib.hid (ba (poB (.slice ao rs.length cap) d) (Below.refl w.heap.size w))
  obtain ⟨W, hW⟩ : ∃ W, W = w.alloc (poB (.slice ao rs.length cap) d) := ⟨_, rfl⟩
  rw [← hW] at HX0 HB0
  obtain ⟨R, hR⟩ : ∃ R, R = (⟨rs, d⟩ : Po).right := ⟨_, rfl⟩
  rw [← hR]
  have HR := Lib.hid hR
  have HL2 := Lib.hid hl2
  have HOK := Lib.hid hok
  clear hR hrows hL hl2 hok
  go_enter Tryd.func7, Tryd.ntmps7
  go_upto_region 1 with fail
  change Code.wp _ _ _ _ (w.alloc (poB (.slice ao rs.length cap) d))
  rw [← hW]
  clear hW
  obtain ⟨c0, c1⟩ := pbox HX0.out
  by_cases h64 : 64 < rs.length
  · have HE : Hid (R = false) := Lib.hid (by rw [HR.out]; unfold Po.right; rw [show decide (rs.length ≤ 64) = false by simp; omega]; rfl)
    have hb : decide ((64 : Int) < (rs.length : Int)) = true := by simp; omega
    clear h64
    go_wp2_with fail
    go_ret
    exact ⟨by rw [HE.out]; rfl, HB0.out⟩
  have hb : decide ((64 : Int) < (rs.length : Int)) = false := by simp; omega
  go_wp2_with fail
  refine (raction_any d _ hd).mono ?_
  rintro e w1 ⟨rfl, hb1⟩
  have HB1 := Lib.hid (below2 HB0.out hb1)
  have HX1 := Lib.hid (kb hb1 HX0.out)
  clear hb1 c0 c1 HX0 HB0
  rcases act_empty (v := d) with ⟨he, hs⟩ | ⟨he, hs⟩
  · have HE : Hid (R = false) := Lib.hid (by rw [HR.out]; unfold Po.right; rw [hs]; simp)
    clear hs h64
    generalize actS d = A at *
    go_wp2_with fail
    go_ret
    exact ⟨by rw [HE.out]; rfl, HB1.out⟩
  have HRR : Hid (R = rs.all Rl.right) := Lib.hid (by rw [HR.out]; unfold Po.right; rw [hs, show decide (rs.length ≤ 64) = true by simp; omega]; rfl)
  clear hs h64
  generalize actS d = A at *
  go_wp2_with fail
  go_loopw [3] (fun i wr => ∃ k : Nat, k ≤ rs.length ∧ i = .int .i64 k ∧ Below w.heap.size w wr ∧ wr.heap[w.heap.size]? = some (poB (.slice ao rs.length cap) d) ∧ (rs.take k).all Rl.right = true) (fun i _ => rs.length - (Lib.intOf i).toNat)
  case atStart => exact ⟨0, Nat.zero_le _, rfl, HB1.out, HX1.out, rfl⟩
  case round =>
    obtain ⟨k, hk, rfl, hbw, hxx, hall⟩ := hrel
    have HB := Lib.hid hbw
    have HX := Lib.hid hxx
    have HA := Lib.hid hall
    clear hbw hxx hall HB1 HX1
    obtain ⟨c0, c1⟩ := pbox HX.out
    by_cases hlt : k < rs.length
    · obtain ⟨b, off, cv, rfl, hb', hcv, d0, d1, d2, d3⟩ := HROW.out k hlt
      obtain ⟨x, hx⟩ : ∃ x, x = rs[k] := ⟨_, rfl⟩
      rw [← hx] at hcv d0 d1 d3
      have hxk : x.ok := by rw [hx]; exact HOK.out _ (List.getElem_mem hlt)
      have hxl : x.conds.length ≤ 9223372036854775807 := by rw [hx]; exact HL2.out _ (List.getElem_mem hlt)
      obtain ⟨co, ccap, rfl, hcr⟩ := hcv.rows
      have HXR := Lib.hid hx
      have HCR := Lib.hid hcr
      have hact := hxk.2.2.1
      have e0 := (HB.out.cell (p := ⟨b, _, none⟩) hb').trans d0
      have e1 := (HB.out.cell (p := ⟨b, _, none⟩) hb').trans d1
      have e2 := (HB.out.cell (p := ⟨b, _, none⟩) hb').trans d2
      have e3 := (HB.out.cell (p := ⟨b, _, none⟩) hb').trans d3
      have l0 : (k : Int) < (rs.length : Int) := by omega
      have l1 : (0 : Int) ≤ (k : Int) := by omega
      have l2 : (k : Int).toNat = k := by omega
      clear hx hcr d0 d1 d2 d3 hcv
      go_upto_region 7 with fail
      obtain ⟨W1, hW1⟩ : ∃ W1, W1 = wr.alloc (rlB x (.slice co x.conds.length ccap)) := ⟨_, rfl⟩
      have HX2 : Hid (W1.heap[wr.heap.size]? = some (rlB x (.slice co x.conds.length ccap))) := Lib.hid (by rw [hW1]; exact heap_alloc_new wr _)
      have HP2 : Hid (W1.heap[w.heap.size]? = some (poB (.slice (some ⟨b, off, none⟩) rs.length cap) d)) := Lib.hid (by rw [hW1]; exact ka _ HX.out)
      have HB2 : Hid (Below w.heap.size w W1) := Lib.hid (by rw [hW1]; exact ba _ HB.out)
      change Code.wp _ _ _ _ (wr.alloc (rlB x (.slice co x.conds.length ccap)))
      rw [← hW1]
      clear hW1 e0 e1 e2 e3 l0 l1 l2 c0 c1 HX HB
      obtain ⟨r0, r1, r2, r3⟩ := rbox HX2.out
      generalize wr.heap.size = g at *
      by_cases h4 : 4 < x.conds.length
      · have HE : Hid (R = false) := Lib.hid (by
          rw [HRR.out]
          refine not_all hlt ?_
          rw [← HXR.out]
          unfold Rl.right
          rw [show decide (x.conds.length ≤ 4) = false by simp; omega]
          rfl)
        have hb4 : decide ((4 : Int) < (x.conds.length : Int)) = true := by simp; omega
        clear h4
        go_wp2_with fail
        go_ret
        exact ⟨by rw [HE.out]; rfl, HB2.out⟩
      have hb4 : decide ((4 : Int) < (x.conds.length : Int)) = false := by simp; omega
      go_wp2_with fail
      refine (raction_any x.act _ hact).mono ?_
      rintro e w3 ⟨rfl, hb3⟩
      have HB3 := Lib.hid (below2 HB2.out hb3)
      have HX3 := Lib.hid (kb hb3 HX2.out)
      have HP3 := Lib.hid (kb hb3 HP2.out)
      clear hb3 r0 r1 r2 r3 HX2 HP2 HB2
      rcases act_empty (v := x.act) with ⟨he2, hs⟩ | ⟨he2, hs⟩
      · have HE : Hid (R = false) := Lib.hid (by
          rw [HRR.out]
          refine not_all hlt ?_
          rw [← HXR.out]
          unfold Rl.right
          rw [hs]
          simp)
        clear hs h4
        generalize actS x.act = A2 at *
        go_wp2_with fail
        go_ret
        exact ⟨by rw [HE.out]; rfl, HB3.out⟩
      have HXX : Hid (x.right = x.conds.all Cd.right) := Lib.hid (by unfold Rl.right; rw [hs, show decide (x.conds.length ≤ 4) = true by simp; omega]; rfl)
      clear hs h4
      generalize actS x.act = A2 at *
      go_wp2_with fail
      go_loopw [5] (fun i wv => ∃ j : Nat, j ≤ x.conds.length ∧ i = .int .i64 j ∧ Below w.heap.size w wv ∧ wv.heap[w.heap.size]? = some (poB (.slice (some ⟨b, off, none⟩) rs.length cap) d) ∧ wv.heap[g]? = some (rlB x (.slice co x.conds.length ccap)) ∧ (x.conds.take j).all Cd.right = true) (fun i _ => x.conds.length - (Lib.intOf i).toNat)
      case atStart => exact ⟨0, Nat.zero_le _, rfl, HB3.out, HP3.out, HX3.out, rfl⟩
      case round =>
        obtain ⟨j, hj, rfl, hbw, hxx, hgg, hcall⟩ := hrel
        have HBv := Lib.hid hbw
        have HPv := Lib.hid hxx
        have HXv := Lib.hid hgg
        have HCv := Lib.hid hcall
        clear hbw hxx hgg hcall HB3 HP3 HX3
        obtain ⟨r0, r1, r2, r3⟩ := rbox HXv.out
        by_cases hjl : j < x.conds.length
        · obtain ⟨cb, coff, rfl, hcb, d0, d1, d2, d3⟩ := HCR.out j hjl
          obtain ⟨c, hc⟩ : ∃ c, c = x.conds[j] := ⟨_, rfl⟩
          rw [← hc] at d0 d1 d2 d3
          have e0 := (HBv.out.cell (p := ⟨cb, _, none⟩) hcb).trans d0
          have e1 := (HBv.out.cell (p := ⟨cb, _, none⟩) hcb).trans d1
          have e2 := (HBv.out.cell (p := ⟨cb, _, none⟩) hcb).trans d2
          have e3 := (HBv.out.cell (p := ⟨cb, _, none⟩) hcb).trans d3
          have HCJ := Lib.hid hc
          have l0 : (j : Int) < (x.conds.length : Int) := by omega
          have l1 : (0 : Int) ≤ (j : Int) := by omega
          have l2 : (j : Int).toNat = j := by omega
          clear hc d0 d1 d2 d3
          go_wp2_with fail
          refine (rright8_any c _).mono ?_
          rintro e w5 ⟨rfl, hb5⟩
          have HB5 := Lib.hid (below2 HBv.out hb5)
          have HP5 := Lib.hid (kb hb5 HPv.out)
          have HX5 := Lib.hid (kb hb5 HXv.out)
          clear hb5 e0 e1 e2 e3 r0 r1 r2 r3
          cases hr : c.right
          · have HE : Hid (R = false) := Lib.hid (by
              rw [HRR.out]
              refine not_all hlt ?_
              rw [← HXR.out, HXX.out]
              refine not_all hjl ?_
              rw [← HCJ.out, hr])
            clear hr
            go_wp2_with fail
            go_ret
            exact ⟨by rw [HE.out]; rfl, HB5.out⟩
          · have HN : Hid ((x.conds.take (j + 1)).all Cd.right = true) := Lib.hid (take_all_succ hjl HCv.out (by rw [← HCJ.out]; exact hr))
            clear hr
            go_wp2_with fail
            go_roundw
            case rel => exact ⟨j + 1, by omega, by go_num, HB5.out, HP5.out, HX5.out, HN.out⟩
            case measure => simp [Lib.intOf]; omega
        · have HN : Hid ((rs.take (k + 1)).all Rl.right = true) := Lib.hid (take_all_succ hlt HA.out (by rw [← HXR.out, HXX.out]; exact take_all_end (by omega) HCv.out))
          go_wp2_with fail
          go_roundw
          case rel => exact ⟨k + 1, by omega, by go_num, HBv.out, HPv.out, HN.out⟩
          case measure => simp [Lib.intOf]; omega
    · have hke : k = rs.length := by omega
      have HE : Hid (R = true) := Lib.hid (by rw [HRR.out]; exact take_all_end (by omega) HA.out)
      clear hke
      go_wp2_with fail
      go_ret
      exact ⟨by rw [HE.out]; rfl, HB.out⟩
end Go.Proofs.YtbhondjfilohdaaDoor
