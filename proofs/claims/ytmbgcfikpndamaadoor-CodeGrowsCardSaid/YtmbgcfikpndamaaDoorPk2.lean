/-
  What the laws' texts use, joined.
-/
import Derived.Test.YtmbgcfikpndamaaDoorProg
import Derived.WalkKit
import Derived.ProofKit
import Derived.Lib.Hide
import Derived.Laws.Rows
import Derived.Laws.ResultCell
import Derived.Laws.Entries
import Derived.Handy
import Derived.OwnWalk
import Derived.Laws.OwnMore
import Derived.Deep.Draws
import Derived.Laws.IdiomStrings
import Derived.Lib.BufferRead
import Derived.Maps.OwnSet
import Derived.Laws.BitsAllLaws
import Derived.RowKit
import Derived.Lib.QuietBelow
import Derived.Lib.OthersKept
import Derived.BigQuiet
import Derived.IntWalk
import Derived.Deep.RegionHeld3
import Derived.BigRegion
import Derived.Laws.Tables
import Derived.Deep.DeepCutAuto
import Derived.Deep.QuietTactic
import Derived.Test.YtmbgcfikpndamaaDoorRows
import Derived.OpenShut
import Derived.Carry
import Derived.Deep.DeepHandedRow
import Derived.Lib.SmallJoins
import Derived.WalkMore
import Derived.Test.YtmbgcfikpndamaaDoorPk1
/-
  The map of the conditions: what conditions() makes, and what is looked up in it.
-/
namespace Go.Proofs.YtmbgcfikpndamaaDoor
open Go.ChangeShapes Go.WideShapes Go.ChangeAt Go.RowKit
set_option maxRecDepth 20000

/-- The elements of the map read as themselves. -/
def fnR : Value → Option (DataW Value × List MemPlace) := fun v => some (.held v, [])
theorem keyI : Go.Maps.Keyed Tryd.prog 3 := Go.Maps.int_keyed Tryd.underlying3
def keyL (a : Int) : Lit := .int .i64 a
theorem key_lit (a : Int) : WideAt.IsKeyLit (keyL a) := by unfold keyL; exact True.intro
theorem keyOfI {a : Int} (h : -9223372036854775808 ≤ a ∧ a ≤ 9223372036854775807) : keyOf Tryd.prog 3 (.int .i64 a) = some (keyL a) := Go.Maps.keyOf_int_mk Tryd.underlying3 (WalkArith.wf_i64 h)
theorem isMap_put {D : DataW Value} (h : Maps.IsMap D) (a : Int) (v : Value) : Maps.IsMap (D.put (keyL a) (.held v)) := by
  obtain ⟨es, rfl⟩ := h
  exact ⟨_, rfl⟩
theorem has_put {D : DataW Value} (h : Maps.IsMap D) (a op : Int) (v : Value) : Maps.has (D.put (keyL a) (.held v)) (keyL op) = (decide (op = a) || Maps.has D (keyL op)) := by
  by_cases e : op = a
  · subst e
    rw [Maps.has_put_same h (key_lit _)]
    simp
  · rw [Maps.has_put_other (by unfold keyL; intro h; cases h; exact e rfl)]
    simp [e]
theorem at_put {D : DataW Value} (h : Maps.IsMap D) (a op : Int) (v : Value) (z : DataW Value) : (D.put (keyL a) (.held v)).atKey (keyL op) z = if op = a then .held v else D.atKey (keyL op) z := by
  by_cases e : op = a
  · subst e
    rw [Maps.atKey_put_same h (key_lit _)]
    simp
  · rw [Maps.atKey_put_other (by unfold keyL; intro h; cases h; exact e rfl)]
    simp [e]
def putAll : List (Int × Value) → DataW Value → DataW Value
  | [], D => D
  | p :: es, D => putAll es (D.put (keyL p.1) (.held p.2))
/-- What is looked up: the last one of a key. -/
def lastOf : List (Int × Value) → Int → Option Value → Option Value
  | [], _, o => o
  | p :: es, op, o => lastOf es op (if op = p.1 then some p.2 else o)
theorem has_all : ∀ (es : List (Int × Value)) (D : DataW Value) (op : Int) (o : Option Value), Maps.IsMap D → Maps.has D (keyL op) = o.isSome → Maps.has (putAll es D) (keyL op) = (lastOf es op o).isSome
  | [], _, _, _, _, h => h
  | p :: es, D, op, o, hm, h => by
    refine has_all es _ op _ (isMap_put hm _ _) ?_
    rw [has_put hm, h]
    by_cases e : op = p.1 <;> simp [e]
theorem at_all : ∀ (es : List (Int × Value)) (D : DataW Value) (op : Int) (o : Option Value) (z : Value), Maps.IsMap D → D.atKey (keyL op) (.held z) = .held (o.getD z) → (putAll es D).atKey (keyL op) (.held z) = .held ((lastOf es op o).getD z)
  | [], _, _, _, _, _, h => h
  | p :: es, D, op, o, z, hm, h => by
    refine at_all es _ op _ z (isMap_put hm _ _) ?_
    rw [at_put hm, h]
    by_cases e : op = p.1 <;> simp [e]

/-- The number of an operation's condition; 0: it has none. -/
def kindOf (op : Int) : Nat :=
  if op = 32 then 1 else if op = 2 ∨ op = 3 ∨ op = 96 ∨ op = 97 then 2 else if op = 52 then 3 else if op = 100 ∨ op = 116 then 4 else if op = 5 then 5
  else if op = 21 ∨ op = 37 ∨ op = 53 ∨ op = 69 ∨ op = 29 ∨ op = 45 ∨ op = 61 ∨ op = 77 then 6 else 0
def rowsM (s : Nat → Value) : List (Int × Value) :=
  [(32, s 1), (2, s 2), (3, s 2), (96, s 2), (97, s 2), (52, s 3), (100, s 4), (116, s 4), (5, s 5), (21, s 6), (37, s 6), (53, s 6), (69, s 6), (29, s 6), (45, s 6), (61, s 6), (77, s 6)]
theorem last_rows (s : Nat → Value) (op : Int) : lastOf (rowsM s) op none = if kindOf op = 0 then none else some (s (kindOf op)) := by
  unfold kindOf
  by_cases h1 : op = 32
  · subst h1; rfl
  by_cases h2 : op = 2 ∨ op = 3 ∨ op = 96 ∨ op = 97
  · rcases h2 with h2 | h2 | h2 | h2 <;> subst h2 <;> rfl
  by_cases h3 : op = 52
  · subst h3; rfl
  by_cases h4 : op = 100 ∨ op = 116
  · rcases h4 with h2 | h2 <;> subst h2 <;> rfl
  by_cases h5 : op = 5
  · subst h5; rfl
  by_cases h6 : op = 21 ∨ op = 37 ∨ op = 53 ∨ op = 69 ∨ op = 29 ∨ op = 45 ∨ op = 61 ∨ op = 77
  · rcases h6 with h2 | h2 | h2 | h2 | h2 | h2 | h2 | h2 <;> subst h2 <;> rfl
  simp only [not_or] at h2 h4 h6
  simp [h1, h2, h3, h4, h5, h6, lastOf, rowsM]
def mapD (s : Nat → Value) : DataW Value := putAll (rowsM s) (.map [])
theorem has_mapD (s : Nat → Value) (op : Int) : Maps.has (mapD s) (keyL op) = (kindOf op != 0) := by
  unfold mapD
  rw [has_all (rowsM s) (.map []) op none Maps.isMap_empty rfl, last_rows]
  by_cases h : kindOf op = 0 <;> simp [h]
theorem at_mapD (s : Nat → Value) (op : Int) (z : Value) : (mapD s).atKey (keyL op) (.held z) = .held (if kindOf op = 0 then z else s (kindOf op)) := by
  unfold mapD
  rw [at_all (rowsM s) (.map []) op none z Maps.isMap_empty rfl, last_rows]
  by_cases h : kindOf op = 0 <;> simp [h]
theorem kindOf_le (op : Int) : kindOf op ≤ 6 := by
  unfold kindOf
  repeat' split
  all_goals omega

/-- The map of the conditions, as it lies in a world. -/
def MapAt (w : World) (v : Value) : Prop := ∃ (b : Nat) (s : Nat → Value), v = .map (some b) ∧ w.ownsMap Tryd.prog 3 fnR b 17 (mapD s) ∧ ∀ c, 1 ≤ c → c ≤ 6 → CondAt w (s c) c
theorem own_map_below {w w' : World} {b n : Nat} {D : DataW Value} (h : w.ownsMap Tryd.prog 3 fnR b n D) (hb : Below w.heap.size w w') : w'.ownsMap Tryd.prog 3 fnR b n D := by
  obtain ⟨es, clock, hh, r⟩ := h
  exact ⟨es, clock, (hb.block b (lt_of_block hh)).trans hh, r⟩
theorem MapAt.below {w w' : World} {v : Value} (h : MapAt w v) (hb : Below w.heap.size w w') : MapAt w' v := by
  obtain ⟨b, s, rfl, h1, h2⟩ := h
  exact ⟨b, s, rfl, own_map_below h1 hb, fun c hc hc' => (h2 c hc hc').below hb⟩
theorem zeroC (w : World) : (zeroValue 95).run Tryd.prog w = .ok .nilFunc w := by kernel_rfl
/-- What is looked up. -/
theorem look_map {w : World} {b : Nat} {s : Nat → Value} (h : w.ownsMap Tryd.prog 3 fnR b 17 (mapD s)) (op : Int) (ho : -9223372036854775808 ≤ op ∧ op ≤ 9223372036854775807) :
    (Instr.lookup 79 (.map (some b)) (.int .i64 op) true).run Tryd.prog w = .ok (.tuple #[if kindOf op = 0 then .nilFunc else s (kindOf op), .bool (kindOf op != 0)]) w := by
  obtain ⟨v, ps, hr, hv⟩ := h.look_ok keyI Tryd.underlying79 (zeroC w) (zd := .held .nilFunc) (zp := []) rfl (keyOfI ho)
  rw [at_mapD] at hv
  rw [has_mapD] at hr
  unfold fnR at hv
  simp only [Option.some.injEq, Prod.mk.injEq, DataW.held.injEq] at hv
  rw [hr, hv.1]
end Go.Proofs.YtmbgcfikpndamaaDoor

/-
  What conditions() makes: the map of the conditions.
-/
namespace Go.Proofs.YtmbgcfikpndamaaDoor
open Go.ChangeShapes Go.WideShapes Go.ChangeAt Go.RowKit
set_option maxRecDepth 20000

/-- The map while it is filled. -/
def MK (w0 : World) (b n : Nat) (D : DataW Value) (w : World) : Prop := w.ownsMap Tryd.prog 3 fnR b n D ∧ Below w0.heap.size w0 w ∧ w0.heap.size ≤ b
theorem mk_new (w : World) : MK w w.heap.size 0 (.map []) (w.alloc (.map #[] 0)) :=
  ⟨World.ownsMap_made w Tryd.prog 3 fnR, ba _ (Below.refl _ _), Nat.le_refl _⟩
theorem wpList_ins (w : World) {ops : Array Oper} {rest : List Oper} {o : Oper} {a : Act} {Q : Exit → Act → World → Prop}
    (hg : o.guard = none) (m x v : Operand) (hop : o.op = Op.insert 79 m x v) {w0 : World} {b n : Nat} {D : DataW Value}
    (hm : a.eval m = .map (some b)) (h : MK w0 b n D w) (hn : n < 100) (k : Int) (hk : -9223372036854775808 ≤ k ∧ k ≤ 9223372036854775807) (hx : a.eval x = .int .i64 k) (val : Value) (hv : a.eval v = val)
    (hK : ∀ w', MK w0 b (n + 1) (D.put (keyL k) (.held val)) w' → wpList Tryd.prog ops Q rest (a.put o.dst undef) w') : wpList Tryd.prog ops Q (o :: rest) a w := by
  obtain ⟨h1, h2, h3⟩ := h
  refine wpList_insert_own w hg m x v _ hop _ _ keyI Tryd.underlying79 fnR b n D hm h1 (by unfold maxLen; omega) _ val _ hx hv (keyOfI hk) _ [] rfl ?_
  intro w' h1' hg'
  exact hK w' ⟨h1', h2.grown hg' h2.size (fun k hk => by cases hk; exact h3), h3⟩

def CondsEnd (w : World) (e : Ending) (w' : World) : Prop := ∃ v, e = .returned v ∧ MapAt w' v ∧ Below w.heap.size w w'
theorem conditions_any (w : World) : Calls Tryd.prog 45 #[] w (CondsEnd w) := by
  go_enter Tryd.func45, Tryd.ntmps45
  go_wp2_with fail
  refine (unless_any 1 _).mono ?_
  rintro e w1 ⟨v1, rfl, c1, hb1⟩
  have C1 := Lib.hid c1
  have B1 := Lib.hid hb1
  clear c1 hb1
  go_wp2_with fail
  refine (unless_any 2 _).mono ?_
  rintro e w2 ⟨v2, rfl, c2, hb2⟩
  have C2 := Lib.hid c2
  have B2 := Lib.hid (B1.out.trans (hb2.mono B1.out.size))
  have C1' := Lib.hid (C1.out.below hb2)
  clear c2 hb2 C1 B1
  go_wp2_with fail
  refine (unless_any 3 _).mono ?_
  rintro e w3 ⟨v3, rfl, c3, hb3⟩
  have C3 := Lib.hid c3
  have B3 := Lib.hid (B2.out.trans (hb3.mono B2.out.size))
  have C1 := Lib.hid (C1'.out.below hb3)
  have C2' := Lib.hid (C2.out.below hb3)
  clear c3 hb3 C1' C2 B2
  go_wp2_with fail
  refine (unless_any 4 _).mono ?_
  rintro e w4 ⟨v4, rfl, c4, hb4⟩
  have C4 := Lib.hid c4
  have B4 := Lib.hid (B3.out.trans (hb4.mono B3.out.size))
  have C1' := Lib.hid (C1.out.below hb4)
  have C2 := Lib.hid (C2'.out.below hb4)
  have C3' := Lib.hid (C3.out.below hb4)
  clear c4 hb4 C1 C2' C3 B3
  go_wp2_with fail
  refine (unless_any 5 _).mono ?_
  rintro e w5 ⟨v5, rfl, c5, hb5⟩
  have C5 := Lib.hid c5
  have B5 := Lib.hid (B4.out.trans (hb5.mono B4.out.size))
  have C1 := Lib.hid (C1'.out.below hb5)
  have C2' := Lib.hid (C2.out.below hb5)
  have C3 := Lib.hid (C3'.out.below hb5)
  have C4' := Lib.hid (C4.out.below hb5)
  clear c5 hb5 C1' C2 C3' C4 B4
  go_wp2_with fail
  refine (unless_any 6 _).mono ?_
  rintro e w6 ⟨v6, rfl, c6, hb6⟩
  have C6 := Lib.hid c6
  have B6 := Lib.hid (B5.out.trans (hb6.mono B5.out.size))
  have C1' := Lib.hid (C1.out.below hb6)
  have C2 := Lib.hid (C2'.out.below hb6)
  have C3' := Lib.hid (C3.out.below hb6)
  have C4 := Lib.hid (C4'.out.below hb6)
  have C5' := Lib.hid (C5.out.below hb6)
  clear c6 hb6 C1 C2' C3 C4' C5 B5
  have hend : ∀ w', MK w6 w6.heap.size 17 (mapD fun c => match c with | 1 => v1 | 2 => v2 | 3 => v3 | 4 => v4 | 5 => v5 | _ => v6) w' → CondsEnd w (.returned (.map (some w6.heap.size))) w' := by
    rintro w' ⟨h1, h2, h3⟩
    refine ⟨_, rfl, ⟨_, _, rfl, h1, fun c hc hc' => ?_⟩, B6.out.trans (h2.mono B6.out.size)⟩
    have h : c = 1 ∨ c = 2 ∨ c = 3 ∨ c = 4 ∨ c = 5 ∨ c = 6 := by omega
    rcases h with rfl | rfl | rfl | rfl | rfl | rfl
    · exact C1'.out.below h2
    · exact C2.out.below h2
    · exact C3'.out.below h2
    · exact C4.out.below h2
    · exact C5'.out.below h2
    · exact C6.out.below h2
  have hmm := @run_makeMap Tryd.prog
  have M0 := mk_new w6
  go_wp2_with (first | (refine wpList_ins _ rfl _ _ _ rfl rfl (by assumption) (by omega) _ (by omega) rfl _ rfl ?_; intro w' h') | go_in)
  go_ret
  exact hend _ (by assumption)
end Go.Proofs.YtmbgcfikpndamaaDoor

/-
  The error of one instruction, by the condition of its operation; and what check.fault answers.
-/
namespace Go.Proofs.YtmbgcfikpndamaaDoor
open Go.ChangeShapes Go.WideShapes Go.ChangeAt Go.RowKit
set_option maxRecDepth 20000

theorem branch_rows : ∀ i, i < 39 → isBranch (Ip.refOps.getD i 0) = decide (kindOf (Ip.refOps.getD i 0) = 6) := by decide
theorem kind6_some {op : Int} (h : kindOf op = 6) : (Ip.byOp op).isSome = true := by
  have h' : op = 21 ∨ op = 37 ∨ op = 53 ∨ op = 69 ∨ op = 29 ∨ op = 45 ∨ op = 61 ∨ op = 77 := by
    unfold kindOf at h
    repeat' split at h
    all_goals first | assumption | (exact absurd h (by decide))
  rcases h' with rfl | rfl | rfl | rfl | rfl | rfl | rfl | rfl <;> decide
theorem branch_kind (op : Int) : isBranch op = decide (kindOf op = 6) := by
  rcases Ip.plc_cases op with ⟨i, hi, _, rfl, _, _⟩ | ⟨_, hb⟩
  · exact branch_rows i hi
  · unfold isBranch
    rw [hb]
    cases h : decide (kindOf op = 6)
    · rfl
    · have := kind6_some (of_decide_eq_true h)
      rw [hb] at this
      cases this
theorem tmod4 {k : Int} (hk : 0 ≤ k) : (k.tmod 4 == 0 && decide (k < 64)) = !(k % 4 != 0 || decide (60 < k)) := by
  rw [Int.tmod_eq_emod_of_nonneg hk]
  by_cases h : k % 4 = 0
  · by_cases h2 : k < 64
    · have : ¬ 60 < k := by omega
      simp [h, h2, this]
    · have : 60 < k := by omega
      simp [h, h2, this]
  · have e1 : (k % 4 == 0) = false := by simpa using h
    have e2 : (k % 4 != 0) = true := by simpa using h
    rw [e1, e2]
    rfl
theorem one_kind (x : X4) (n : Int) (hk : 0 ≤ x.k) : oneE x n = if x.right = false then 1 else if kindOf x.op = 0 then 0 else if holdsB (kindOf x.op) x.jt x.jf x.k n = true then 0 else errB (kindOf x.op) := by
  unfold oneE
  cases hr : x.right
  · rfl
  simp only [Bool.not_true, Bool.false_eq_true, if_false, Bool.true_eq_false]
  rw [branch_kind]
  obtain ⟨op, jt, jf, k⟩ := x
  simp only at hk ⊢
  clear hr
  by_cases h1 : op = 32
  · subst h1
    rw [show kindOf 32 = 1 from rfl]
    show (if (true && (k % 4 != 0 || decide (60 < k))) = true then (6 : Int) else _) = if (1 : Nat) = 0 then 0 else if (k.tmod 4 == 0 && decide (k < 64)) = true then 0 else 6
    rw [tmod4 hk]
    cases (k % 4 != 0 || decide (60 < k)) <;> simp
  by_cases h2 : op = 2 ∨ op = 3 ∨ op = 96 ∨ op = 97
  · have h : ∀ o, kindOf o = 2 → kindOf op = 2 := fun o h => by unfold kindOf; simp [h1, h2]
    rw [h 2 rfl]
    have e : (op == 2 || op == 3 || op == 96 || op == 97) = true := by rcases h2 with h | h | h | h <;> subst h <;> rfl
    rw [e]
    have e' : (op == 32) = false := by simpa using h1
    have e3 : (op == 52) = false := by rcases h2 with h | h | h | h <;> subst h <;> rfl
    have e4 : (op == 100 || op == 116) = false := by rcases h2 with h | h | h | h <;> subst h <;> rfl
    have e5 : (op == 5) = false := by rcases h2 with h | h | h | h <;> subst h <;> rfl
    rw [e', e3, e4, e5]
    show (if _ then _ else if (true && decide (15 < k)) = true then (7 : Int) else _) = if (2 : Nat) = 0 then 0 else if decide (k < 16) = true then 0 else 7
    by_cases h : k < 16
    · have : ¬ 15 < k := by omega
      simp [h, this]
    · have : 15 < k := by omega
      simp [h, this]
  by_cases h3 : op = 52
  · subst h3
    rw [show kindOf 52 = 3 from rfl]
    show (if (true && k == 0) = true then (8 : Int) else _) = if (3 : Nat) = 0 then 0 else if (k != 0) = true then 0 else 8
    cases h : (k == 0) <;> simp_all
  by_cases h4 : op = 100 ∨ op = 116
  · have h : kindOf op = 4 := by unfold kindOf; rcases h4 with h | h <;> subst h <;> rfl
    rw [h]
    have e : (op == 100 || op == 116) = true := by rcases h4 with h | h <;> subst h <;> rfl
    rw [e]
    have e' : (op == 32) = false := by simpa using h1
    have e2 : (op == 2 || op == 3 || op == 96 || op == 97) = false := by rcases h4 with h | h <;> subst h <;> rfl
    have e3 : (op == 52) = false := by simpa using h3
    have e5 : (op == 5) = false := by rcases h4 with h | h <;> subst h <;> rfl
    rw [e', e2, e3, e5]
    show (if _ then _ else if _ then _ else if _ then _ else if (true && decide (31 < k)) = true then (1 : Int) else _) = if (4 : Nat) = 0 then 0 else if decide (k < 32) = true then 0 else 1
    by_cases h : k < 32
    · have : ¬ 31 < k := by omega
      simp [h, this]
    · have : 31 < k := by omega
      simp [h, this]
  have e' : (op == 32) = false := by simpa using h1
  have e2 : (op == 2 || op == 3 || op == 96 || op == 97) = false := by simpa [and_assoc] using h2
  have e3 : (op == 52) = false := by simpa using h3
  have e4 : (op == 100 || op == 116) = false := by simpa using h4
  rw [e', e2, e3, e4]
  simp only [Bool.false_and, Bool.false_eq_true, if_false]
  by_cases h5 : op = 5
  · subst h5
    rw [show kindOf 5 = 5 from rfl]
    show (if (true && decide (n ≤ k)) = true then (4 : Int) else _) = if (5 : Nat) = 0 then 0 else if decide (k < n) = true then 0 else 4
    by_cases h : k < n
    · have : ¬ n ≤ k := by omega
      simp [h, this]
    · have : n ≤ k := by omega
      simp [h, this]
  have e5 : (op == 5) = false := by simpa using h5
  rw [e5]
  simp only [Bool.false_and, Bool.false_eq_true, if_false]
  by_cases h6 : kindOf op = 6
  · rw [h6]
    show (if (true && (decide (n ≤ jt) || decide (n ≤ jf))) = true then (4 : Int) else 0) = if (6 : Nat) = 0 then 0 else if (decide (jt < n) && decide (jf < n)) = true then 0 else 4
    by_cases a : jt < n <;> by_cases b : jf < n <;> simp [a, b, Int.not_le.2, Int.not_lt.1] <;> omega
  · have h0 : kindOf op = 0 := by
      unfold kindOf at h6 ⊢
      rw [if_neg h1, if_neg h2, if_neg h3, if_neg h4, if_neg h5] at h6 ⊢
      by_cases h : op = 21 ∨ op = 37 ∨ op = 53 ∨ op = 69 ∨ op = 29 ∨ op = 45 ∨ op = 61 ∨ op = 77
      · rw [if_pos h] at h6; exact absurd rfl h6
      · rw [if_neg h]
    rw [h0]
    rfl

theorem right_op {op jt jf k : Int} (h : right op jt jf k = true) : -9223372036854775808 ≤ op ∧ op ≤ 9223372036854775807 := by
  unfold right at h
  cases hb : Ip.byOp op with
  | none => rw [hb] at h; cases h
  | some r =>
    obtain ⟨hr, rfl⟩ := Ip.byOp_op hb
    have := Ip.byOp_bd r.op
    rw [hb] at this
    simp only [Option.getD_some] at this
    omega
/-- What check.fault answers. -/
theorem kfault_any (x : X4) (hx : x.ok) (n : Int) (hn : 0 ≤ n) (hn' : n ≤ 9223372036854775807) (v : Value) (w : World) (hM : MapAt w v) (ht : OTab w) :
    Calls Tryd.prog 46 #[x.val, .int .i64 n, v] w fun e w' => e = .returned (.int .i64 (oneE x n)) ∧ Below w.heap.size w w' := by
  have HE := Lib.hid (one_kind x n hx.1)
  generalize oneE x n = ev at HE ⊢
  obtain ⟨op, jt, jf, k⟩ := x
  obtain ⟨hk, hk'⟩ := hx
  simp only at hk hk' HE
  have hb := ba (insB op jt jf k) (Below.refl w.heap.size w)
  have hH : (w.alloc (insB op jt jf k)).heap[w.heap.size]? = some (insB op jt jf k) := heap_alloc_new _ _
  have ht1 := ht.alloc (insB op jt jf k)
  have HM := Lib.hid (hM.below hb)
  clear hM
  go_enter Tryd.func46, Tryd.ntmps46
  go_wp2_with fail
  refine (right_any op jt jf k _ ht1).mono ?_
  rintro e w1 ⟨rfl, hB⟩
  have hH1 : w1.heap[w.heap.size]? = some (insB op jt jf k) := (hB.block _ (lt_of_block hH)).trans hH
  have hsz := lt_of_block hH1
  have HM1 := Lib.hid (HM.out.below hB)
  have HB1 := Lib.hid (hb.trans (hB.mono hb.size))
  change Hid (ev = if right op jt jf k = false then 1 else if kindOf op = 0 then 0 else if holdsB (kindOf op) jt jf k n = true then 0 else errB (kindOf op)) at HE
  have HX := Lib.hid hH1
  clear hH1 hB hb hH ht1 HM
  cases hr : right op jt jf k
  · have HF := Lib.hid (HE.out.trans (by rw [hr]; rfl) : ev = 1)
    clear hr
    go_wp2_with fail
    go_ret
    exact ⟨retI HF.out, HB1.out⟩
  · have HR := Lib.hid hr
    have hop : -9223372036854775808 ≤ op ∧ op ≤ 9223372036854775807 := right_op hr
    have HE' := Lib.hid (HE.out.trans (by rw [hr]; rfl) : ev = if kindOf op = 0 then 0 else if holdsB (kindOf op) jt jf k n = true then 0 else errB (kindOf op))
    clear hr HE
    obtain ⟨mb, s, rfl, hm, hs⟩ := HM1.out
    have hl := look_map hm op hop
    have c0 : w1.cell? ⟨w.heap.size, 0, none⟩ = some (.int .i64 op) := cell_in HX.out 0
    by_cases h0 : kindOf op = 0
    · rw [h0] at hl
      have HF := Lib.hid (HE'.out.trans (by rw [h0]; rfl) : ev = 0)
      simp only [if_true, bne_self_eq_false] at hl
      have HS := Lib.hid hs
      have HO := Lib.hid hop
      have HZ := Lib.hid h0
      clear hm hs hop h0
      go_wp2_with fail
      go_ret
      exact ⟨retI HF.out, HB1.out⟩
    · obtain ⟨a, b, hv, ca, cb, la, lb⟩ := hs _ (by omega) (kindOf_le op)
      have hne : (kindOf op != 0) = true := by simpa using h0
      rw [if_neg h0, hv, hne] at hl
      have HF := Lib.hid (HE'.out.trans (by rw [if_neg h0]) : ev = if holdsB (kindOf op) jt jf k n = true then 0 else errB (kindOf op))
      have c1 : w1.cell? ⟨w.heap.size, 1, none⟩ = some (.int .i64 jt) := cell_in HX.out 1
      have c2 : w1.cell? ⟨w.heap.size, 2, none⟩ = some (.int .i64 jf) := cell_in HX.out 2
      have c3 : w1.cell? ⟨w.heap.size, 3, none⟩ = some (.int .u32 k) := cell_in HX.out 3
      have HK := Lib.hid (unless1_any (kindOf op) op jt jf k n hk hk' hn hn' w1 a b ca cb la lb)
      generalize (if holdsB (kindOf op) jt jf k n = true then 0 else errB (kindOf op)) = q at HK HF
      clear hm hs hop h0 hv ca cb la lb hne HE' HM1
      go_wp2_with fail
      refine HK.out.mono ?_
      rintro e w2 ⟨rfl, hB2⟩
      have HB2 := Lib.hid (HB1.out.trans (hB2.mono HB1.out.size))
      clear hB2 c0 c1 c2 c3 hl
      go_wp2_with fail
      go_ret
      exact ⟨retI HF.out, HB2.out⟩
end Go.Proofs.YtmbgcfikpndamaaDoor
/-
  What check.Check, and Sound, answer, for any filter that lies in a world.
-/
namespace Go.Proofs.YtmbgcfikpndamaaDoor
open Go.ChangeShapes Go.WideShapes Go.ChangeAt Go.RowKit
set_option maxRecDepth 20000

theorem getD_at {l : List X4} {n : Nat} (h : n < l.length) : l.getD n zeroX = l[n] := by
  rw [List.getD_eq_getElem?_getD, List.getElem?_eq_getElem h]
  rfl
theorem badAt_at {l : List X4} {n : Nat} (h : n < l.length) : badAt l n = oneE l[n] ((l.length : Int) - 1 - n) := by
  unfold badAt
  rw [getD_at h]
theorem goodTo_succ {l : List X4} {n : Nat} (h : goodTo l n) (hb : badAt l n = 0) : goodTo l (n + 1) := by
  intro i hi
  by_cases e : i = n
  · rw [e]; exact hb
  · exact h i (by omega)
def CheckEnd (l : List X4) (w : World) (e : Ending) (w' : World) : Prop := ∃ p er, CheckIs l p er ∧ e = .returned (.tuple #[.int .i64 p, .int .i64 er]) ∧ Below w.heap.size w w'
theorem checkEnd {l : List X4} {w w' : World} {p er : Int} (h : CheckIs l p er) (hb : Below w.heap.size w w') : CheckEnd l w (.returned (.tuple #[.int .i64 p, .int .i64 er])) w' := ⟨p, er, h, rfl, hb⟩

set_option maxHeartbeats 1000000 in
theorem check_any (v : Value) (l : List X4) (w : World) (hF : FAt w v l) (hok : ∀ x ∈ l, x.ok) (ht : OTab w) :
    Calls Tryd.prog 34 #[v] w (CheckEnd l w) := by
  obtain ⟨ao, cap, rfl, hF⟩ := hF
  by_cases h0 : l.length = 0
  · have HC : Hid (CheckIs l 0 5) := Lib.hid (.inl ⟨h0, rfl, rfl⟩)
    go_enter Tryd.func34, Tryd.ntmps34
    go_wp2_with fail
    go_ret2
    exact checkEnd HC.out (Below.refl _ _)
  by_cases hbig : 4096 < l.length
  · have HC : Hid (CheckIs l 0 3) := Lib.hid (.inr (.inl ⟨hbig, rfl, rfl⟩))
    go_enter Tryd.func34, Tryd.ntmps34
    go_wp2_with fail
    go_ret2
    exact checkEnd HC.out (Below.refl _ _)
  · have HF := Lib.hid hF
    have HO := Lib.hid hok
    have hlen : l.length ≤ 4096 := by omega
    have hpos : 0 < l.length := by omega
    clear hF hok
    go_enter Tryd.func34, Tryd.ntmps34
    go_wp2_with fail
    refine (conditions_any _).mono ?_
    rintro e w1 ⟨vm, rfl, hM, hB0⟩
    have HM := Lib.hid hM
    have HB0 := Lib.hid hB0
    have ht1 := ht.below hB0
    have HT := Lib.hid ht1
    clear hM hB0 ht1 ht
    go_wp2_with fail
    go_loopw [21] (fun i wr => ∃ n : Nat, n ≤ l.length ∧ i = .int .i64 n ∧ Below w1.heap.size w1 wr ∧ goodTo l n) (fun i _ => l.length - (intOf i).toNat)
    case atStart => exact ⟨0, by omega, rfl, Below.refl _ _, fun i hi => by omega⟩
    case round =>
      obtain ⟨n, hn, rfl, hB, hall⟩ := hrel
      have HB := Lib.hid hB
      have HA := Lib.hid hall
      by_cases hlt : n < l.length
      · rcases HF.out with h0 | ⟨b, off, rfl, hb, hc⟩
        · rw [h0] at hlt; simp at hlt
        have hb' : b < w1.heap.size := Nat.lt_of_lt_of_le hb HB0.out.size
        obtain ⟨c0, c1, c2, c3⟩ := hc n hlt
        have d0 := (hB.cell (p := ⟨b, _, none⟩) hb').trans ((HB0.out.cell (p := ⟨b, _, none⟩) hb).trans c0)
        have d1 := (hB.cell (p := ⟨b, _, none⟩) hb').trans ((HB0.out.cell (p := ⟨b, _, none⟩) hb).trans c1)
        have d2 := (hB.cell (p := ⟨b, _, none⟩) hb').trans ((HB0.out.cell (p := ⟨b, _, none⟩) hb).trans c2)
        have d3 := (hB.cell (p := ⟨b, _, none⟩) hb').trans ((HB0.out.cell (p := ⟨b, _, none⟩) hb).trans c3)
        have HO1 := Lib.hid (HO.out _ (List.getElem_mem hlt))
        have HE := Lib.hid (badAt_at hlt)
        clear hc c0 c1 c2 c3 hB hall HF
        go_wp2_with fail
        have hB2 := ba (insB l[n].op l[n].jt l[n].jf l[n].k) HB.out
        refine (kfault_any l[n] HO1.out ((l.length : Int) - 1 - n) (by omega) (by omega) vm _ (HM.out.below hB2) (HT.out.below hB2)).mono ?_
        rintro e w2 ⟨rfl, hb1⟩
        have HB1 := Lib.hid (hB2.trans (hb1.mono hB2.size))
        clear hB2 hb1 d0 d1 d2 d3
        rw [← HE.out]
        have HW := Lib.hid (HB0.out.trans (HB1.out.mono HB0.out.size))
        cases hz : (badAt l n == 0)
        · have HC : Hid (CheckIs l n (badAt l n)) := Lib.hid (.inr (.inr (.inl ⟨hpos, hlen, n, hlt, HA.out, by simpa using hz, rfl, rfl⟩)))
          go_wp2_with fail
          go_ret2
          exact checkEnd HC.out HW.out
        · have HN := Lib.hid (goodTo_succ HA.out (by simpa using hz))
          go_wp2_with fail
          go_roundw
          case rel => exact ⟨n + 1, by omega, by go_num, HB1.out, HN.out⟩
          case measure => simp [intOf]; omega
      · have hnl : n = l.length := by omega
        subst hnl
        have HW := Lib.hid (HB0.out.trans (HB.out.mono HB0.out.size))
        rcases HF.out with h0 | ⟨b, off, rfl, hb, hc⟩
        · rw [h0] at hpos; simp at hpos
        have hb' : b < w1.heap.size := Nat.lt_of_lt_of_le hb HB0.out.size
        have hll : l.length - 1 < l.length := by omega
        have HL := Lib.hid (getD_at hll)
        obtain ⟨c0, c1, c2, c3⟩ := hc (l.length - 1) hll
        have d0 := (hB.cell (p := ⟨b, _, none⟩) hb').trans ((HB0.out.cell (p := ⟨b, _, none⟩) hb).trans c0)
        have d1 := (hB.cell (p := ⟨b, _, none⟩) hb').trans ((HB0.out.cell (p := ⟨b, _, none⟩) hb).trans c1)
        have d2 := (hB.cell (p := ⟨b, _, none⟩) hb').trans ((HB0.out.cell (p := ⟨b, _, none⟩) hb).trans c2)
        have d3 := (hB.cell (p := ⟨b, _, none⟩) hb').trans ((HB0.out.cell (p := ⟨b, _, none⟩) hb).trans c3)
        generalize l[l.length - 1] = x at d0 d1 d2 d3 HL
        clear hc c0 c1 c2 c3 hB hall HF
        go_wp2_with fail
        refine (ends_any x.op x.jt x.jf x.k _).mono ?_
        rintro e w2 ⟨rfl, hb1⟩
        have HW2 := Lib.hid (HW.out.trans (hb1.mono HW.out.size))
        have HLX : Hid (endsE (lastX l) = (x.op == 6 || x.op == 22)) := Lib.hid (by unfold lastX; rw [HL.out]; rfl)
        clear hb1 d0 d1 d2 d3
        cases he : (x.op == 6 || x.op == 22)
        · have HC : Hid (CheckIs l ((l.length : Int) - 1) 5) := Lib.hid (.inr (.inr (.inr (.inl ⟨hpos, hlen, HA.out, HLX.out.trans he, rfl, rfl⟩))))
          clear he
          go_wp2_with fail
          go_ret2
          exact checkEnd HC.out HW2.out
        · have HC : Hid (CheckIs l 0 0) := Lib.hid (.inr (.inr (.inr (.inr ⟨hpos, hlen, HA.out, HLX.out.trans he, rfl, rfl⟩))))
          clear he
          go_wp2_with fail
          go_ret2
          exact checkEnd HC.out HW2.out

/-- Whether a filter is sound. -/
def soundB (l : List X4) : Bool := decide (0 < l.length) && decide (l.length ≤ 4096) && ((List.range l.length).all fun i => badAt l i == 0) && endsE (lastX l)
theorem soundB_iff {l : List X4} : soundB l = true ↔ SoundL l := by
  unfold soundB SoundL goodTo
  simp only [Bool.and_eq_true, decide_eq_true_eq, List.all_eq_true, List.mem_range, beq_iff_eq, and_assoc]
theorem sound_err {l : List X4} {p e : Int} (h : CheckIs l p e) : (e == 0) = soundB l := by
  cases hs : soundB l
  · have : ¬ SoundL l := fun h' => by rw [soundB_iff.2 h'] at hs; cases hs
    have : ¬ e = 0 := fun h' => this ((sound_iff h).1 h')
    simpa using this
  · have := (sound_iff h).2 (soundB_iff.1 hs)
    simpa using this
theorem sound_any (v : Value) (l : List X4) (w : World) (hF : FAt w v l) (hok : ∀ x ∈ l, x.ok) (ht : OTab w) :
    Calls Tryd.prog 18 #[v] w fun e w' => e = .returned (.bool (soundB l)) ∧ Below w.heap.size w w' := by
  have HF := Lib.hid hF
  have HO := Lib.hid hok
  have HT := Lib.hid ht
  clear hF hok ht
  go_enter Tryd.func18, Tryd.ntmps18
  go_wp2_with fail
  refine (check_any v l w HF.out HO.out HT.out).mono ?_
  rintro e w1 ⟨p, er, hc, rfl, hb1⟩
  have HB1 := Lib.hid hb1
  have HE := Lib.hid (sound_err hc)
  clear hb1 hc
  go_wp2_with fail
  go_ret
  exact ⟨ret1 HE.out, HB1.out⟩
end Go.Proofs.YtmbgcfikpndamaaDoor

/-
  Where a run may go, plainly; integers that lie in a world.
-/
namespace Go.Proofs.YtmbgcfikpndamaaDoor
open Go.ChangeShapes Go.WideShapes Go.ChangeAt Go.RowKit
set_option maxRecDepth 20000

/-- Integers that lie in a world. -/
def IAt (w : World) (v : Value) (l : List Int) : Prop :=
  ∃ ao cap, v = .slice ao l.length cap ∧ (l = [] ∨ ∃ b off, ao = some ⟨b, off, none⟩ ∧ b < w.heap.size ∧ ∀ i (h : i < l.length), w.cell? ⟨b, off + i, none⟩ = some (.int .i64 l[i]))
theorem IAt.nil (w : World) : IAt w (.slice none 0 0) [] := ⟨none, 0, rfl, .inl rfl⟩
theorem IAt.below {w w' : World} {v : Value} {l : List Int} (h : IAt w v l) (hb : Below w.heap.size w w') : IAt w' v l := by
  obtain ⟨ao, cap, rfl, h⟩ := h
  refine ⟨ao, cap, rfl, h.imp id ?_⟩
  rintro ⟨b, off, rfl, hl, hc⟩
  exact ⟨b, off, rfl, Nat.lt_of_lt_of_le hl hb.size, fun i hi => (hb.cell (p := ⟨b, _, none⟩) hl).trans (hc i hi)⟩
theorem IAt.shape {w : World} {v : Value} {l : List Int} (h : IAt w v l) : ∃ ao cap, v = .slice ao l.length cap := by
  obtain ⟨ao, cap, rfl, _⟩ := h
  exact ⟨ao, cap, rfl⟩
theorem IAt.one (w : World) (a : Int) (t : TypeId) (cap : Nat) : IAt (w.alloc (.cells #[.int .i64 a] t)) (.slice (some ⟨w.heap.size, 0, none⟩) 1 cap) [a] :=
  ⟨_, _, rfl, .inr ⟨w.heap.size, 0, rfl, by rw [size_alloc]; omega, fun i hi => by
    have h0 : i = 0 := by simpa using hi
    subst h0
    rw [cell_in (heap_alloc_new w (.cells #[.int .i64 a] t)) (0 + 0)]
    rfl⟩⟩
abbrev icells (l : List Int) : List Value := l.map fun a => Value.int .i64 a
theorem IAt.own {w : World} {base : Nat} {e : TypeId} {v : Value} {n : Nat} {l : List Int} (h : w.ownsRow base e 1 v n (icells l)) (hn : n = l.length) : IAt w v l := by
  subst hn
  rcases h.2 with ⟨rfl, h0⟩ | ⟨g, cap, cur, rfl, _, hg, hc, hm, _, ht⟩
  · obtain rfl := List.length_eq_zero_iff.1 h0
    exact IAt.nil w
  · refine ⟨_, _, rfl, .inr ⟨g, 0, rfl, lt_of_block hg, fun i hi => ?_⟩⟩
    rw [Nat.zero_add, cell_in hg i, ← Array.getElem?_toList]
    have hu : (icells l)[i]? = some (.int .i64 l[i]) := by simp [hi]
    rw [← ht, List.getElem?_take, if_pos (by omega)] at hu
    exact hu

/-- Where a run may go from a place that has this instruction. -/
def nextX (x : X4) (p : Int) : List Int :=
  if endsE x then [] else if x.op == 5 then [p + 1 + x.k] else if isBranch x.op then (if x.jt == x.jf then [p + 1 + x.jt] else [min (p + 1 + x.jt) (p + 1 + x.jf), max (p + 1 + x.jt) (p + 1 + x.jf)]) else [p + 1]
theorem right_jumps {x : X4} (h : x.right = true) : 0 ≤ x.jt ∧ 0 ≤ x.jf ∧ x.jt ≤ 255 ∧ x.jf ≤ 255 := by
  unfold X4.right right Ip.fits Ip.isJ at h
  simp only [Bool.and_eq_true] at h
  have h2 := h.2.2
  split at h2
  · simp only [Bool.and_eq_true, decide_eq_true_eq] at h2
    omega
  · simp only [Bool.and_eq_true, beq_iff_eq] at h2
    omega
/-- Where a run may go is behind the place, and within. -/
theorem next_in {l : List X4} {i : Nat} (hs : SoundL l) (hok : ∀ x ∈ l, x.ok) (hi : i < l.length) : ∀ q ∈ nextX l[i] i, (i : Int) < q ∧ q < l.length := by
  obtain ⟨h0, _, hg, he⟩ := hs
  have hb := hg i hi
  rw [badAt_at hi] at hb
  have hr := one_right hb
  obtain ⟨j0, j1, j2, j3⟩ := right_jumps hr
  have hk := (hok _ (List.getElem_mem hi)).1
  rw [one_kind _ _ hk, hr] at hb
  simp only [Bool.true_eq_false, if_false] at hb
  intro q hq
  unfold nextX at hq
  cases hE : endsE l[i]
  · rw [hE] at hq
    have hlast : i + 1 < l.length := by
      rcases Nat.lt_or_ge (i + 1) l.length with h | h
      · exact h
      · have e : i = l.length - 1 := by omega
        subst e
        unfold lastX at he
        rw [getD_at hi, hE] at he
        cases he
    simp only [Bool.false_eq_true, if_false] at hq
    cases h5 : (l[i].op == 5)
    · rw [h5] at hq
      simp only [Bool.false_eq_true, if_false] at hq
      cases hB : isBranch l[i].op
      · rw [hB] at hq
        simp only [Bool.false_eq_true, if_false, List.mem_singleton] at hq
        omega
      · rw [hB] at hq
        have h6 : kindOf l[i].op = 6 := by rw [branch_kind] at hB; simpa using hB
        rw [h6] at hb
        have hb : (if (decide (l[i].jt < (l.length : Int) - 1 - i) && decide (l[i].jf < (l.length : Int) - 1 - i)) = true then (0 : Int) else 4) = 0 := hb
        have hc : l[i].jt < (l.length : Int) - 1 - i ∧ l[i].jf < (l.length : Int) - 1 - i := by
          by_cases h : (decide (l[i].jt < (l.length : Int) - 1 - i) && decide (l[i].jf < (l.length : Int) - 1 - i)) = true
          · simpa using h
          · rw [if_neg h] at hb; cases hb
        simp only [if_true] at hq
        cases hJ : (l[i].jt == l[i].jf)
        · rw [hJ] at hq
          simp only [Bool.false_eq_true, if_false, List.mem_cons, List.not_mem_nil, or_false] at hq
          omega
        · rw [hJ] at hq
          simp only [if_true, List.mem_singleton] at hq
          omega
    · rw [h5] at hq
      simp only [if_true, List.mem_singleton] at hq
      have e5 : l[i].op = 5 := by simpa using h5
      rw [e5] at hb
      have hb : (if decide (l[i].k < (l.length : Int) - 1 - i) = true then (0 : Int) else 4) = 0 := hb
      have hc : l[i].k < (l.length : Int) - 1 - i := by
        by_cases h : decide (l[i].k < (l.length : Int) - 1 - i) = true
        · simpa using h
        · rw [if_neg h] at hb; cases hb
      omega
  · rw [hE] at hq
    simp at hq
end Go.Proofs.YtmbgcfikpndamaaDoor
/-
  Records of system calls, plainly: their words, their bytes, and both ways between them.
-/
namespace Go.Proofs.YtmbgcfikpndamaaDoor
open Go.RowKit

/-- A record. -/
structure Rec where
  nr : Nat
  arch : Nat
  ip : Nat
  a0 : Nat
  a1 : Nat
  a2 : Nat
  a3 : Nat
  a4 : Nat
  a5 : Nat
deriving DecidableEq
/-- Its numbers fit. -/
def Rec.ok (d : Rec) : Prop := d.nr < 4294967296 ∧ d.arch < 4294967296 ∧ d.ip < 18446744073709551616 ∧ d.a0 < 18446744073709551616 ∧ d.a1 < 18446744073709551616 ∧ d.a2 < 18446744073709551616 ∧ d.a3 < 18446744073709551616 ∧ d.a4 < 18446744073709551616 ∧ d.a5 < 18446744073709551616
abbrev Rec.cells (d : Rec) : Array Value := #[.int .u32 d.nr, .int .u32 d.arch, .int .u64 d.ip, .int .u64 d.a0, .int .u64 d.a1, .int .u64 d.a2, .int .u64 d.a3, .int .u64 d.a4, .int .u64 d.a5]
abbrev Rec.val (d : Rec) : Value := .agg d.cells
/-- The sixteen words of a record, and the record of sixteen words. -/
def wordsD (d : Rec) : List Nat := [d.nr, d.arch, d.ip % 4294967296, d.ip / 4294967296, d.a0 % 4294967296, d.a0 / 4294967296, d.a1 % 4294967296, d.a1 / 4294967296, d.a2 % 4294967296, d.a2 / 4294967296, d.a3 % 4294967296, d.a3 / 4294967296, d.a4 % 4294967296, d.a4 / 4294967296, d.a5 % 4294967296, d.a5 / 4294967296]
theorem words_len (d : Rec) : (wordsD d).length = 16 := rfl
theorem words_lt {d : Rec} (h : d.ok) : ∀ x ∈ wordsD d, x < 4294967296 := by
  obtain ⟨nr, arch, ip, a0, a1, a2, a3, a4, a5⟩ := d
  obtain ⟨h0, h1, h2, h3, h4, h5, h6, h7, h8⟩ := h
  simp only at h0 h1 h2 h3 h4 h5 h6 h7 h8
  intro x hx
  simp only [wordsD, List.mem_cons, List.not_mem_nil, or_false] at hx
  omega
/-- A record's bytes, and the words of bytes. -/
def bytesD (d : Rec) : List UInt8 := (wordsD d).flatMap (lowBytes · 4)
theorem flat4_len (l : List Nat) : (l.flatMap (lowBytes · 4)).length = 4 * l.length := by
  induction l with
  | nil => rfl
  | cons x l ih => rw [List.flatMap_cons, List.length_append, lowBytes_len, ih, List.length_cons]; omega
theorem bytesD_len (d : Rec) : (bytesD d).length = 64 := flat4_len _
/-- A number of four bytes. -/
theorem num_low4 (x : Nat) (h : x < 4294967296) : numAt (lowBytes x 4) 0 4 = x := by
  have e : lowBytes x 4 = [byteAt x 0, byteAt x 1, byteAt x 2, byteAt x 3] := rfl
  rw [e]
  have c0 := byteAt_val x 0
  have c1 := byteAt_val x 1
  have c2 := byteAt_val x 2
  have c3 := byteAt_val x 3
  simp only [Nat.mul_zero, Nat.pow_zero, Nat.div_one, Nat.mul_one, Nat.reduceMul, Nat.reducePow] at c0 c1 c2 c3
  simp only [numAt, List.getD_eq_getElem?_getD, List.getElem?_cons_succ, List.getElem?_cons_zero, Option.getD_some, Nat.zero_add, Nat.reduceMul, Nat.mul_zero, Nat.pow_zero, Nat.mul_one, Nat.reducePow]
  omega
/-- The words of numbers' bytes. -/
theorem num_flat : ∀ (l : List Nat) (i : Nat), (∀ x ∈ l, x < 4294967296) → (h : i < l.length) → numAt (l.flatMap (lowBytes · 4)) (4 * i) 4 = l[i]
  | x :: l, 0, hl, _ => by
    rw [List.flatMap_cons, Nat.mul_zero, numAt_behind _ _ _ _ (by rw [lowBytes_len]; omega), num_low4 x (hl x List.mem_cons_self)]
    rfl
  | x :: l, i + 1, hl, h => by
    rw [List.flatMap_cons, show 4 * (i + 1) = (lowBytes x 4).length + 4 * i by rw [lowBytes_len]; omega, numAt_front]
    exact num_flat l i (fun y hy => hl y (List.mem_cons_of_mem _ hy)) (by simpa using h)
/-- Is there a word at a place? The word, and the record with another one. -/
def hasW (at_ : Nat) : Bool := at_ % 4 == 0 && decide (at_ < 64)
def wordAtD (d : Rec) (at_ : Nat) : Nat := if hasW at_ then (wordsD d).getD (at_ / 4) 0 else 0
end Go.Proofs.YtmbgcfikpndamaaDoor

/-
  Package data's small functions: split, join, begins, argByte, Low, High; and the document's Low.
-/
namespace Go.Proofs.YtmbgcfikpndamaaDoor
open Go.ChangeShapes Go.WideShapes Go.ChangeAt Go.RowKit
set_option maxRecDepth 20000

end Go.Proofs.YtmbgcfikpndamaaDoor

/-
  What data.words and data.record answer: a record's sixteen words, and the record of sixteen words.
-/
namespace Go.Proofs.YtmbgcfikpndamaaDoor
open Go.ChangeShapes Go.WideShapes Go.ChangeAt Go.RowKit
set_option maxRecDepth 20000

end Go.Proofs.YtmbgcfikpndamaaDoor

/-
  What data.record answers: the record of sixteen words.
-/
namespace Go.Proofs.YtmbgcfikpndamaaDoor
open Go.ChangeShapes Go.WideShapes Go.ChangeAt Go.RowKit
set_option maxRecDepth 20000

end Go.Proofs.YtmbgcfikpndamaaDoor

/-
  What data.Word answers.
-/
namespace Go.Proofs.YtmbgcfikpndamaaDoor
open Go.ChangeShapes Go.WideShapes Go.ChangeAt Go.RowKit
set_option maxRecDepth 20000

end Go.Proofs.YtmbgcfikpndamaaDoor
/-
  Runs of filters, plainly: states, what an instruction makes of one, which way a branch goes, and what comes of a run.
-/
namespace Go.Proofs.YtmbgcfikpndamaaDoor
open Go.RowKit

/-- What arithmetic takes beside A. -/
def argS (s : St) (x : X4) : Int := if aluX x.op then (s.x : Int) else x.k
/-- Whether the run goes on. -/
def goesS (s : St) (x : X4) : Bool := !aluB x.op || Wd.doB (aluV x.op) (argS s x)
/-- The state behind an instruction, if the run goes on. -/
def stepS (s : St) (x : X4) (d : Rec) : St :=
  if aluB x.op then (if goesS s x then ⟨(Wd.doV (aluV x.op) s.a (argS s x)).toNat, s.x, s.m⟩ else s)
  else if x.op = 0 then ⟨x.k.toNat, s.x, s.m⟩
  else if x.op = 1 then ⟨s.a, x.k.toNat, s.m⟩
  else if x.op = 32 then ⟨wordAtD d x.k.toNat, s.x, s.m⟩
  else if x.op = 96 then ⟨s.m.getD x.k.toNat 0, s.x, s.m⟩
  else if x.op = 97 then ⟨s.a, s.m.getD x.k.toNat 0, s.m⟩
  else if x.op = 2 then ⟨s.a, s.x, s.m.set x.k.toNat s.a⟩
  else if x.op = 3 then ⟨s.a, s.x, s.m.set x.k.toNat s.x⟩
  else if x.op = 7 then ⟨s.a, s.a, s.m⟩
  else if x.op = 135 then ⟨s.x, s.x, s.m⟩
  else if x.op = 132 then ⟨((-(s.a : Int)) % 4294967296).toNat, s.x, s.m⟩
  else s
/-- Which way a branch goes. -/
def takesS (s : St) (x : X4) : Bool :=
  if x.op = 21 then (s.a : Int) == x.k else if x.op = 37 then decide (x.k < s.a) else if x.op = 53 then decide (x.k ≤ s.a) else if x.op = 69 then bits .and .u32 (s.a : Int) x.k != 0
  else if x.op = 29 then s.a == s.x else if x.op = 45 then decide (s.x < s.a) else if x.op = 61 then decide (s.x ≤ s.a) else if x.op = 77 then bits .and .u32 (s.a : Int) (s.x : Int) != 0
  else false
/-- Where the run goes on. -/
def placeS (s : St) (x : X4) (p : Nat) : Nat := p + 1 + (if x.op = 5 then x.k.toNat else if isBranch x.op then (if takesS s x then x.jt.toNat else x.jf.toNat) else 0)
/-- What comes of a run of at most so many instructions, and how many were done. -/
def fromS (f : List X4) (d : Rec) : Nat → St → Nat → Nat × Nat
  | 0, _, _ => (0, 0)
  | n + 1, s, p =>
    let x := f.getD p zeroX
    if x.op = 6 then (x.k.toNat, 1) else if x.op = 22 then (s.a, 1) else if goesS s x = false then (0, 1)
    else ((fromS f d n (stepS s x d) (placeS s x p)).1, (fromS f d n (stepS s x d) (placeS s x p)).2 + 1)
theorem fromS_succ (f : List X4) (d : Rec) (n : Nat) (s : St) (p : Nat) : fromS f d (n + 1) s p = if (f.getD p zeroX).op = 6 then ((f.getD p zeroX).k.toNat, 1) else if (f.getD p zeroX).op = 22 then (s.a, 1) else if goesS s (f.getD p zeroX) = false then (0, 1)
    else ((fromS f d n (stepS s (f.getD p zeroX) d) (placeS s (f.getD p zeroX) p)).1, (fromS f d n (stepS s (f.getD p zeroX) d) (placeS s (f.getD p zeroX) p)).2 + 1) := rfl
theorem doV_nat {k a b : Int} (h0 : 0 ≤ a) (h1 : a ≤ 4294967295) (h2 : 0 ≤ b) : (Wd.doV k a b).toNat ≤ 4294967295 := by
  have := Wd.doV_bd k a b h0 h1 h2
  omega
theorem argS_bd {s : St} {x : X4} (hs : s.ok) (hx : x.ok) : 0 ≤ argS s x ∧ argS s x ≤ 4294967295 := by
  obtain ⟨_, h, _⟩ := hs
  obtain ⟨h0, h1⟩ := hx
  unfold argS
  split <;> omega
theorem wordAtD_le {d : Rec} (h : d.ok) (k : Nat) : wordAtD d k ≤ 4294967295 := by
  unfold wordAtD
  split
  · rw [List.getD_eq_getElem?_getD]
    cases hg : (wordsD d)[k / 4]? with
    | none => simp
    | some v =>
      have := words_lt h v (List.mem_of_getElem? hg)
      simp; omega
  · omega
theorem getD_le {l : List Nat} (h : ∀ v ∈ l, v ≤ 4294967295) (i : Nat) : l.getD i 0 ≤ 4294967295 := by
  rw [List.getD_eq_getElem?_getD]
  cases hg : l[i]? with
  | none => simp
  | some v => simpa using h v (List.mem_of_getElem? hg)
theorem set_le {l : List Nat} (h : ∀ v ∈ l, v ≤ 4294967295) (i a : Nat) (ha : a ≤ 4294967295) : ∀ v ∈ l.set i a, v ≤ 4294967295 := fun v hv => by
  rcases List.mem_or_eq_of_mem_set hv with h1 | rfl
  · exact h v h1
  · exact ha
theorem stepS_ok {s : St} {x : X4} {d : Rec} (hs : s.ok) (hx : x.ok) (hd : d.ok) : (stepS s x d).ok := by
  have hb := argS_bd hs hx
  obtain ⟨h1, h2, h3, h4⟩ := hs
  obtain ⟨k0, k1⟩ := hx
  have hk : x.k.toNat ≤ 4294967295 := by omega
  unfold stepS
  by_cases e : aluB x.op = true
  · rw [if_pos e]
    by_cases g : goesS s x = true
    · rw [if_pos g]; exact ⟨doV_nat (by omega) (by omega) hb.1, h2, h3, h4⟩
    · rw [if_neg g]; exact ⟨h1, h2, h3, h4⟩
  rw [if_neg e]
  by_cases e0 : x.op = 0
  · rw [if_pos e0]; exact ⟨hk, h2, h3, h4⟩
  rw [if_neg e0]
  by_cases e1 : x.op = 1
  · rw [if_pos e1]; exact ⟨h1, hk, h3, h4⟩
  rw [if_neg e1]
  by_cases e32 : x.op = 32
  · rw [if_pos e32]; exact ⟨wordAtD_le hd _, h2, h3, h4⟩
  rw [if_neg e32]
  by_cases e96 : x.op = 96
  · rw [if_pos e96]; exact ⟨getD_le h4 _, h2, h3, h4⟩
  rw [if_neg e96]
  by_cases e97 : x.op = 97
  · rw [if_pos e97]; exact ⟨h1, getD_le h4 _, h3, h4⟩
  rw [if_neg e97]
  by_cases e2 : x.op = 2
  · rw [if_pos e2]; exact ⟨h1, h2, by rw [List.length_set]; exact h3, set_le h4 _ _ h1⟩
  rw [if_neg e2]
  by_cases e3 : x.op = 3
  · rw [if_pos e3]; exact ⟨h1, h2, by rw [List.length_set]; exact h3, set_le h4 _ _ h2⟩
  rw [if_neg e3]
  by_cases e7 : x.op = 7
  · rw [if_pos e7]; exact ⟨h1, h1, h3, h4⟩
  rw [if_neg e7]
  by_cases e135 : x.op = 135
  · rw [if_pos e135]; exact ⟨h2, h2, h3, h4⟩
  rw [if_neg e135]
  by_cases e132 : x.op = 132
  · rw [if_pos e132]; exact ⟨by simp only; omega, h2, h3, h4⟩
  rw [if_neg e132]; exact ⟨h1, h2, h3, h4⟩
/-- The next place is one where a run may go. -/
theorem placeS_next {s : St} {x : X4} {p : Nat} (hr : x.right = true) (hx : x.ok) (he : endsE x = false) : ((placeS s x p : Nat) : Int) ∈ nextX x p := by
  obtain ⟨j0, j1, _, _⟩ := right_jumps hr
  have hk := hx.1
  unfold placeS nextX
  rw [he]
  simp only [Bool.false_eq_true, if_false]
  by_cases h5 : x.op = 5
  · have : (x.op == 5) = true := by simpa using h5
    rw [this, if_pos h5]
    simp only [if_true, List.mem_singleton]
    omega
  · have : (x.op == 5) = false := by simpa using h5
    rw [this, if_neg h5]
    simp only [Bool.false_eq_true, if_false]
    cases isBranch x.op
    · simp
    · simp only [if_true]
      by_cases hJ : x.jt = x.jf
      · have : (x.jt == x.jf) = true := by simpa using hJ
        rw [this]
        simp only [if_true, List.mem_singleton]
        split <;> omega
      · have : (x.jt == x.jf) = false := by simpa using hJ
        rw [this]
        simp only [Bool.false_eq_true, if_false, List.mem_cons, List.not_mem_nil, or_false]
        split <;> omega
theorem ends_op {x : X4} : endsE x = false ↔ ¬ x.op = 6 ∧ ¬ x.op = 22 := by
  unfold endsE
  simp
/-- In a sound filter, from each place on: the next place is behind, and within. -/
theorem placeS_in {f : List X4} (hs : SoundL f) (hok : ∀ x ∈ f, x.ok) {p : Nat} (hp : p < f.length) (s : St) (he : endsE (f.getD p zeroX) = false) : p < placeS s (f.getD p zeroX) p ∧ placeS s (f.getD p zeroX) p < f.length := by
  rw [getD_at hp] at he ⊢
  have hb := hs.2.2.1 p hp
  rw [badAt_at hp] at hb
  have h := next_in hs hok hp _ (placeS_next (s := s) (p := p) (one_right hb) (hok _ (List.getElem_mem hp)) he)
  omega
/-- A sound filter's run hangs not on how many instructions it may take, if these are enough. -/
theorem fromS_more {f : List X4} (hs : SoundL f) (hok : ∀ x ∈ f, x.ok) (d : Rec) : ∀ (n m : Nat) (s : St) (p : Nat), p < f.length → f.length - p ≤ n → f.length - p ≤ m → fromS f d n s p = fromS f d m s p
  | 0, _, _, _, h, h1, _ => by omega
  | _, 0, _, _, h, _, h2 => by omega
  | n + 1, m + 1, s, p, h, h1, h2 => by
    unfold fromS
    simp only
    by_cases h6 : (f.getD p zeroX).op = 6
    · rw [if_pos h6, if_pos h6]
    by_cases h22 : (f.getD p zeroX).op = 22
    · rw [if_neg h6, if_neg h6, if_pos h22, if_pos h22]
    obtain ⟨q1, q2⟩ := placeS_in hs hok h s (ends_op.2 ⟨h6, h22⟩)
    rw [fromS_more hs hok d n m _ _ q2 (by omega) (by omega)]
/-- At least one instruction is done, and at most as many as are left. -/
theorem fromS_len {f : List X4} (hs : SoundL f) (hok : ∀ x ∈ f, x.ok) (d : Rec) : ∀ (n : Nat) (s : St) (p : Nat), p < f.length → f.length - p ≤ n → 1 ≤ (fromS f d n s p).2 ∧ (fromS f d n s p).2 ≤ f.length - p
  | 0, _, _, h, h1 => by omega
  | n + 1, s, p, h, h1 => by
    unfold fromS
    simp only
    by_cases h6 : (f.getD p zeroX).op = 6
    · rw [if_pos h6]; simp only; omega
    by_cases h22 : (f.getD p zeroX).op = 22
    · rw [if_neg h6, if_pos h22]; simp only; omega
    obtain ⟨q1, q2⟩ := placeS_in hs hok h s (ends_op.2 ⟨h6, h22⟩)
    have ih := fromS_len hs hok d n (stepS s (f.getD p zeroX) d) (placeS s (f.getD p zeroX) p) q2 (by omega)
    rw [if_neg h6, if_neg h22]
    split
    · simp only; omega
    · simp only; omega
/-- What stands ahead, and is gone past, makes no difference. -/
theorem getD_behind (l f : List X4) (p : Nat) : (l ++ f).getD (l.length + p) zeroX = f.getD p zeroX := by
  rw [List.getD_eq_getElem?_getD, List.getElem?_append_right (by omega), List.getD_eq_getElem?_getD, Nat.add_sub_cancel_left]
theorem placeS_shift (s : St) (x : X4) (l p : Nat) : placeS s x (l + p) = l + placeS s x p := by unfold placeS; omega
theorem fromS_behind (l f : List X4) (d : Rec) : ∀ (n : Nat) (s : St) (p : Nat), fromS (l ++ f) d n s (l.length + p) = fromS f d n s p
  | 0, _, _ => rfl
  | n + 1, s, p => by
    unfold fromS
    simp only
    rw [getD_behind, placeS_shift, fromS_behind l f d n]
/-- A jump ahead, over what is never come to. -/
theorem alu5 : aluB 5 = false := by decide
end Go.Proofs.YtmbgcfikpndamaaDoor
/-
  What word.Do and word.Neg answer, for any kind and any two numbers, in every world.
-/
namespace Go.Proofs.YtmbgcfikpndamaaDoor
open Go.ChangeShapes Go.WideShapes Go.ChangeAt Go.RowKit

end Go.Proofs.YtmbgcfikpndamaaDoor

/-
  The document's own answers for arithmetic (package hurdleref01): Do and Neg answer the same as the plain functions.
-/
namespace Wd
open Go
/-- A power of two. -/
def pw (k : Nat) : Nat := 2 ^ k
theorem pw_bd (k : Nat) (h : k < 32) : 1 ≤ pw k ∧ pw k ≤ 2147483648 := by
  have h1 : (2 : Nat) ^ k ≤ 2 ^ 31 := Nat.pow_le_pow_right (by omega) (by omega)
  have h2 : 0 < (2 : Nat) ^ k := Nat.pow_pos (by omega)
  unfold pw
  omega
theorem pw_succ (k : Nat) : pw (k + 1) = pw k * 2 := Nat.pow_succ ..
/-- Bit k of a number. -/
def bt (a k : Nat) : Nat := a / pw k % 2
theorem bt_le (a k : Nat) : bt a k ≤ 1 := by unfold bt; omega
/-- Of each of the first k bits of two numbers what a row of four says, as a number. -/
def sumG (g : Nat → Nat) (a b : Nat) : Nat → Nat
  | 0 => 0
  | k + 1 => sumG g a b k + g (2 * bt a k + bt b k) * pw k
theorem sumG_lt (g : Nat → Nat) (hg : ∀ j, j < 4 → g j ≤ 1) (a b : Nat) : ∀ k, sumG g a b k < pw k
  | 0 => by show 0 < 2 ^ 0; decide
  | k + 1 => by
    have ih := sumG_lt g hg a b k
    have ha := bt_le a k
    have hb := bt_le b k
    have h := hg (2 * bt a k + bt b k) (by omega)
    have hm : g (2 * bt a k + bt b k) * pw k ≤ 1 * pw k := Nat.mul_le_mul_right _ h
    rw [pw_succ]
    unfold sumG
    omega
end Wd
namespace Go.Proofs.YtmbgcfikpndamaaDoor
open Go.ChangeShapes Go.WideShapes Go.ChangeAt Go.RowKit

theorem refNeg_any (a : Int) (w : World) (h0 : 0 ≤ a) (h1 : a ≤ 4294967295) :
    Calls Tryd.prog 52 #[.int .u32 a] w fun e w' => e = .returned (.int .u32 ((-a) % 4294967296)) ∧ w = w' := by
  have he : (4294967296 - a) % 4294967296 = (-a) % 4294967296 := by omega
  go_enter Tryd.func52, Tryd.ntmps52
  go_wp2
  go_ret
  exact ⟨rfl, rfl⟩

theorem power_any (n : Nat) (hn : n ≤ 4294967295) (w : World) :
    Calls Tryd.prog 49 #[.int .u32 n] w fun e w' => e = .returned (.int .u64 (Wd.pw (n % 32))) ∧ w = w' := by
  go_enter Tryd.func49, Tryd.ntmps49
  go_wp2
  go_loop [3, 4] (fun p i => ∃ k : Nat, k ≤ n % 32 ∧ i = .int .u32 k ∧ p = .int .u64 (Wd.pw k)) (fun _ i => 32 - (intOf i).toNat)
  case atStart => exact ⟨0, by omega, rfl, rfl⟩
  case round =>
    obtain ⟨k, hk, rfl, rfl⟩ := hrel
    have hp := Wd.pw_bd k (by omega)
    by_cases hlt : k < n % 32
    · have hs := Lib.hid (Wd.pw_succ k)
      go_wp2
      go_round
      case rel => exact ⟨k + 1, by omega, by go_num, by rw [hs.out]; go_num⟩
      case measure => simp [intOf]; omega
    · have hk2 : k = n % 32 := by omega
      have H := Lib.hid hk2
      clear hk2
      go_wp2
      go_ret
      exact ⟨by rw [← H.out]; rfl, rfl⟩

theorem bit_any (a k : Nat) (ha : a ≤ 4294967295) (hk : k < 32) (w : World) :
    Calls Tryd.prog 64 #[.int .u32 a, .int .u32 k] w fun e w' => e = .returned (.int .u32 (Wd.bt a k)) ∧ w = w' := by
  have hp := Wd.pw_bd k hk
  have hr : k % 32 = k := Nat.mod_eq_of_lt hk
  have hc := power_any k (by omega)
  rw [hr] at hc
  have HC := Lib.hid hc
  clear hc hr
  have hb : (a : Int) / (Wd.pw k : Int) % 2 = (Wd.bt a k : Int) := by unfold Wd.bt; simp
  have hble := Wd.bt_le a k
  have hq0 : 0 ≤ (a : Int) / (Wd.pw k : Int) := Int.ediv_nonneg (by omega) (by omega)
  have hq1 : (a : Int) / (Wd.pw k : Int) ≤ 4294967295 := Int.le_trans (Int.ediv_le_self _ (by omega)) (by omega)
  have h1 : (1 : Int) ≤ (Wd.pw k : Int) := by omega
  have h0 : ((Wd.pw k : Int) == 0) = false := by simp; omega
  go_enter Tryd.func64, Tryd.ntmps64
  go_wp2_with fail
  refine (HC.out _).mono ?_
  rintro e w' ⟨rfl, rfl⟩
  go_wp2_with fail
  go_ret
  exact ⟨rfl, rfl⟩

theorem bitq (a k : Nat) (ha : a ≤ 4294967295) (hk : k < 32) (w : World) :
    Calls Tryd.prog 64 #[.int .u32 a, .int .u32 k] w fun e w' => e = .returned (.int .u32 (Wd.bt a k)) ∧ w' = w :=
  (bit_any a k ha hk w).mono fun _ _ h => ⟨h.1, h.2.symm⟩

set_option maxHeartbeats 1000000 in
theorem bits_any (g : Nat → Nat) (hg : ∀ j, j < 4 → g j ≤ 1) (a b : Nat) (ha : a ≤ 4294967295) (hb : b ≤ 4294967295) (q : Nat) (w : World)
    (hc : ∀ j, j < 4 → w.cell? ⟨q, j, none⟩ = some (.int .u32 (g j))) :
    Calls Tryd.prog 48 #[.int .u32 a, .int .u32 b, .slice (some ⟨q, 0, none⟩) 4 4] w fun e w' => e = .returned (.int .u32 (Wd.sumG g a b 32)) ∧ ∃ n, w' = w.drewN n := by
  have HC := Lib.hid hc
  have HG := Lib.hid hg
  clear hc hg
  go_enter Tryd.func48, Tryd.ntmps48
  go_wp2
  go_loopw [7, 8] (fun o i w' => ∃ k n : Nat, k ≤ 32 ∧ i = .int .u32 k ∧ o = .int .u32 (Wd.sumG g a b k) ∧ w' = w.drewN n) (fun _ i _ => 32 - (intOf i).toNat)
  case atStart => exact ⟨0, 0, by omega, rfl, rfl, rfl⟩
  case round =>
    obtain ⟨k, n, hk, rfl, rfl, rfl⟩ := hrel
    by_cases hlt : k < 32
    · have hp := Wd.pw_bd k hlt
      have hxa := Wd.bt_le a k
      have hxb := Wd.bt_le b k
      have hs := Wd.sumG_lt g HG.out a b k
      have hgj := HG.out (2 * Wd.bt a k + Wd.bt b k) (by omega)
      have hcell := HC.out (2 * Wd.bt a k + Wd.bt b k) (by omega)
      have hgp : g (2 * Wd.bt a k + Wd.bt b k) * Wd.pw k ≤ 1 * Wd.pw k := Nat.mul_le_mul_right _ hgj
      have hsum : Wd.sumG g a b (k + 1) = Wd.sumG g a b k + g (2 * Wd.bt a k + Wd.bt b k) * Wd.pw k := rfl
      have hcw : (w.drewN n).cell? ⟨q, 2 * Wd.bt a k + Wd.bt b k, none⟩ = some (.int .u32 (g (2 * Wd.bt a k + Wd.bt b k))) := by rw [World.cell?_drewN]; exact hcell
      have HS := Lib.hid hsum
      clear hcell hsum
      generalize hW : w.drewN n = W at *
      have HW := Lib.hid hW
      clear hW
      generalize hz : g (2 * Wd.bt a k + Wd.bt b k) = z at *
      generalize ho : Wd.sumG g a b k = o at *
      generalize hP : Wd.pw k = P at *
      have hzP : ((z * P : Nat) : Int) = (z : Int) * (P : Int) := by simp
      have i1 : (z : Int) * (P : Int) ≤ 2147483648 := by omega
      have i0 : 0 ≤ (z : Int) * (P : Int) := by omega
      have i2 : (o : Int) < P := by omega
      have cp : ∀ W, Calls Tryd.prog 49 #[.int .u32 k] W fun e w' => e = .returned (.int .u64 P) ∧ w' = W := fun W => (power_any k (by omega) W).mono fun _ _ h => ⟨by rw [h.1, Nat.mod_eq_of_lt hlt, hP], h.2.symm⟩
      have CP := Lib.hid cp
      have HZ := Lib.hid hzP
      clear cp hz ho hP hzP hgj hgp hs
      go_wp2
      have w1 : IntKind.u32.wrap (2 * (Wd.bt a k : Int)) = 2 * (Wd.bt a k : Int) := IntWalk.u32_in _ (by omega)
      have w2 : IntKind.u32.wrap (2 * (Wd.bt a k : Int) + (Wd.bt b k : Int)) = 2 * (Wd.bt a k : Int) + (Wd.bt b k : Int) := IntWalk.u32_in _ (by omega)
      have w3 : IntKind.i64.wrap (2 * (Wd.bt a k : Int) + (Wd.bt b k : Int)) = 2 * (Wd.bt a k : Int) + (Wd.bt b k : Int) := IntWalk.i64_in _ (by omega)
      have w4 : IntKind.u32.wrap (P : Int) = (P : Int) := IntWalk.u32_in _ (by omega)
      have w5 : IntKind.u32.wrap ((z : Int) * (P : Int)) = (z : Int) * (P : Int) := IntWalk.u32_in _ (by omega)
      have w6 : IntKind.u32.wrap ((o : Int) + (z : Int) * (P : Int)) = (o : Int) + (z : Int) * (P : Int) := IntWalk.u32_in _ (by omega)
      have w7 : (2 * (Wd.bt a k : Int) + (Wd.bt b k : Int)).toNat = 2 * Wd.bt a k + Wd.bt b k := by omega
      have w8 : 0 ≤ 2 * (Wd.bt a k : Int) + (Wd.bt b k : Int) := by omega
      have w9 : 2 * (Wd.bt a k : Int) + (Wd.bt b k : Int) < 4 := by omega
      go_quiet ((first
        | (go_at_call 64; exact Calls.quiet_of_same (bitq _ _ (by omega) (by omega) _))
        | (go_at_call 49; exact Calls.quiet_of_same (CP.out _))))
      clear w1 w2 w3 w4 w5 w6 w7 w8 w9
      go_wp2
      refine ⟨⟨k + 1, n + nq, by omega, by go_num, ?_, ?_⟩, by simp [intOf]; omega⟩
      · rw [HS.out, ← HZ.out]; go_num
      · rw [← HW.out, World.drewN_drewN]
    · obtain rfl : k = 32 := by omega
      go_wp2
      go_ret
      exact ⟨rfl, n, rfl⟩

theorem retT {v v' : Int} {c c' : Bool} (h : v = v') (hc : c = c') : Ending.returned (.tuple #[.int .u32 v, .bool c]) = .returned (.tuple #[.int .u32 v', .bool c']) := by rw [h, hc]

/-- What the three rows of four say. -/
def gOr (j : Nat) : Nat := if j = 0 then 0 else 1
def gAnd (j : Nat) : Nat := if j = 3 then 1 else 0
def gXor (j : Nat) : Nat := if j = 1 ∨ j = 2 then 1 else 0
end Go.Proofs.YtmbgcfikpndamaaDoor
namespace Wd
open Go
theorem bt_eq (x k : Nat) : bt x k = (x.testBit k).toNat := by
  unfold bt pw
  rw [Nat.testBit_eq_decide_div_mod_eq]
  have := Nat.mod_lt (x / 2 ^ k) (show 0 < 2 by omega)
  by_cases h : x / 2 ^ k % 2 = 1
  · simp [h]
  · simp [h]; omega
/-- A number is the sum of its bits. -/
theorem sum_bits (x : Nat) : ∀ k, sumG (fun j => if j = 3 then 1 else 0) x x k = x % pw k
  | 0 => by simp [sumG, pw]; omega
  | k + 1 => by
    unfold sumG
    rw [sum_bits x k]
    have h := Nat.mod_pow_succ (x := x) (b := 2) (k := k)
    unfold bt pw at *
    rw [h]
    have := Nat.mod_lt (x / 2 ^ k) (show 0 < 2 by omega)
    by_cases e : x / 2 ^ k % 2 = 1
    · simp [e]
    · have e0 : x / 2 ^ k % 2 = 0 := by omega
      simp [e0]
/-- If each bit of z is what the row says of those of a and b, the sum is z. -/
theorem sumG_eq (g : Nat → Nat) (a b z : Nat) (hz : z < 4294967296) (h : ∀ k, g (2 * bt a k + bt b k) = bt z k) : sumG g a b 32 = z := by
  have e : ∀ k, sumG g a b k = sumG (fun j => if j = 3 then 1 else 0) z z k := by
    intro k
    induction k with
    | zero => rfl
    | succ k ih =>
      unfold sumG
      rw [ih, h k]
      have := bt_le z k
      by_cases e1 : bt z k = 1
      · simp [e1]
      · have e0 : bt z k = 0 := by omega
        simp [e0]
  rw [e, sum_bits]
  exact Nat.mod_eq_of_lt hz
end Wd
namespace Go.Proofs.YtmbgcfikpndamaaDoor
theorem sum_or (a b : Nat) (ha : a ≤ 4294967295) (hb : b ≤ 4294967295) : ((Wd.sumG gOr a b 32 : Nat) : Int) = bits .or .u32 a b := by
  rw [u32_or_nat a b (by omega) (by omega)]
  congr 1
  refine Wd.sumG_eq _ _ _ _ (Nat.or_lt_two_pow (n := 32) (by omega) (by omega)) fun k => ?_
  rw [Wd.bt_eq, Wd.bt_eq, Wd.bt_eq, Nat.testBit_or]
  cases a.testBit k <;> cases b.testBit k <;> rfl
theorem sum_and (a b : Nat) (ha : a ≤ 4294967295) (hb : b ≤ 4294967295) : ((Wd.sumG gAnd a b 32 : Nat) : Int) = bits .and .u32 a b := by
  rw [u32_and_nat a b (by omega) (by omega)]
  congr 1
  refine Wd.sumG_eq _ _ _ _ (Nat.and_lt_two_pow (n := 32) _ (by omega)) fun k => ?_
  rw [Wd.bt_eq, Wd.bt_eq, Wd.bt_eq, Nat.testBit_and]
  cases a.testBit k <;> cases b.testBit k <;> rfl
theorem sum_xor (a b : Nat) (ha : a ≤ 4294967295) (hb : b ≤ 4294967295) : ((Wd.sumG gXor a b 32 : Nat) : Int) = bits .xor .u32 a b := by
  rw [u32_xor_nat a b (by omega) (by omega)]
  congr 1
  refine Wd.sumG_eq _ _ _ _ (Nat.xor_lt_two_pow (n := 32) (by omega) (by omega)) fun k => ?_
  rw [Wd.bt_eq, Wd.bt_eq, Wd.bt_eq, Nat.testBit_xor]
  cases a.testBit k <;> cases b.testBit k <;> rfl
end Go.Proofs.YtmbgcfikpndamaaDoor

/-
  The document's Do (package hurdleref01), at any kind: the same as the plain function; nothing that was there is changed.
-/
namespace Go.Proofs.YtmbgcfikpndamaaDoor
open Go.ChangeShapes Go.WideShapes Go.ChangeAt Go.RowKit

set_option maxHeartbeats 2000000 in
theorem refDo_nat (k : Int) (a b : Nat) (w : World) (h1 : a ≤ 4294967295) (h3 : b ≤ 4294967295) :
    Calls Tryd.prog 35 #[.int .i64 k, .int .u32 a, .int .u32 b] w fun e w' => e = .returned (.tuple #[.int .u32 (Wd.doV k a b), .bool (Wd.doB k b)]) ∧ Below w.heap.size w w' := by
  by_cases c4 : k = 4
  · subst c4
    go_enter Tryd.func35, Tryd.ntmps35
    go_wp2
    go_ret2
    exact ⟨retT rfl rfl, (Below.refl _ _)⟩
  by_cases c20 : k = 20
  · subst c20
    clear c4
    go_enter Tryd.func35, Tryd.ntmps35
    go_wp2
    go_ret2
    exact ⟨retT (by rw [Wd.doV_sub]; omega) rfl, (Below.refl _ _)⟩
  by_cases c36 : k = 36
  · subst c36
    clear c4 c20
    have hm : (((a * b : Nat)) : Int) = (a : Int) * (b : Int) := by simp
    have hm2 : a * b ≤ 4294967295 * 4294967295 := Nat.mul_le_mul h1 h3
    have q0 : 0 ≤ (a : Int) * (b : Int) := by omega
    have q1 : (a : Int) * (b : Int) ≤ 18446744065119617025 := by omega
    clear hm hm2
    go_enter Tryd.func35, Tryd.ntmps35
    go_wp2
    go_ret2
    exact ⟨retT rfl rfl, (Below.refl _ _)⟩
  by_cases c52 : k = 52
  · subst c52
    clear c4 c20 c36
    by_cases hb : b = 0
    · subst hb
      go_enter Tryd.func35, Tryd.ntmps35
      go_wp2
      go_ret2
      exact ⟨retT rfl rfl, (Below.refl _ _)⟩
    · have hb1 : (1 : Int) ≤ (b : Int) := by omega
      have hbz : ((b : Int) == 0) = false := by simp; omega
      have hbd : (decide ((b : Int) = 0)) = false := by simp; omega
      have HB := Lib.hid hbd
      have hv := Lib.hid (Wd.doV_div a b (by omega))
      have q0 : 0 ≤ (a : Int) / (b : Int) := Int.ediv_nonneg (by omega) (by omega)
      have q1 : (a : Int) / (b : Int) ≤ 4294967295 := Int.le_trans (Int.ediv_le_self _ (by omega)) (by omega)
      clear hb hbd
      go_enter Tryd.func35, Tryd.ntmps35
      go_wp2
      go_ret2
      exact ⟨retT hv.out.symm (by unfold Wd.doB; rw [HB.out]; rfl), (Below.refl _ _)⟩
  by_cases c68 : k = 68
  · subst c68
    clear c4 c20 c36 c52
    have hs := sum_or a b h1 h3
    have HS := Lib.hid hs
    clear hs
    go_enter Tryd.func35, Tryd.ntmps35
    go_wp2_with fail
    refine (bits_any gOr (fun j hj => by unfold gOr; split <;> omega) a b h1 h3 _ _ ?_).mono ?_
    · intro j hj
      rcases j with _ | _ | _ | _ | j
      · simp [gOr]
      · simp [gOr]
      · simp [gOr]
      · simp [gOr]
      · omega
    rintro e w' ⟨rfl, nq, rfl⟩
    go_wp2_with fail
    go_ret2
    exact ⟨retT HS.out rfl, ((Below.refl _ _).alloc (Nat.le_refl _) _).trans ⟨rfl, rfl, rfl, Nat.le_refl _, fun _ _ => rfl⟩⟩
  by_cases c84 : k = 84
  · subst c84
    clear c4 c20 c36 c52 c68
    have hs := sum_and a b h1 h3
    have HS := Lib.hid hs
    clear hs
    go_enter Tryd.func35, Tryd.ntmps35
    go_wp2_with fail
    refine (bits_any gAnd (fun j hj => by unfold gAnd; split <;> omega) a b h1 h3 _ _ ?_).mono ?_
    · intro j hj
      rcases j with _ | _ | _ | _ | j
      · simp [gAnd]
      · simp [gAnd]
      · simp [gAnd]
      · simp [gAnd]
      · omega
    rintro e w' ⟨rfl, nq, rfl⟩
    go_wp2_with fail
    go_ret2
    exact ⟨retT HS.out rfl, ((Below.refl _ _).alloc (Nat.le_refl _) _).trans ⟨rfl, rfl, rfl, Nat.le_refl _, fun _ _ => rfl⟩⟩
  by_cases c100 : k = 100
  · subst c100
    clear c4 c20 c36 c52 c68 c84
    have hp := Wd.pw_bd (b % 32) (by omega)
    have he : Wd.doV 100 a b = (a : Int) * (Wd.pw (b % 32) : Int) % 4294967296 := by
      rw [Wd.doV_lsh]
      have e1 : ((b : Int) % 32).toNat = b % 32 := by omega
      rw [e1]
      unfold Wd.pw
      simp
    have HE := Lib.hid he
    clear he
    have h1p : (1 : Int) ≤ (Wd.pw (b % 32) : Int) := by omega
    have hz : ((Wd.pw (b % 32) : Int) == 0) = false := by simp; omega
    have hm : (((a * Wd.pw (b % 32) : Nat)) : Int) = (a : Int) * (Wd.pw (b % 32) : Int) := by simp
    have hm2 : a * Wd.pw (b % 32) ≤ 4294967295 * 2147483648 := Nat.mul_le_mul h1 hp.2
    have q0 : 0 ≤ (a : Int) * (Wd.pw (b % 32) : Int) := by omega
    have q1 : (a : Int) * (Wd.pw (b % 32) : Int) ≤ 9223372034707292160 := by omega
    clear hm hm2
    go_enter Tryd.func35, Tryd.ntmps35
    go_wp2_with fail
    refine (power_any b h3 _).mono ?_
    rintro e w' ⟨rfl, rfl⟩
    go_wp2_with fail
    go_ret2
    exact ⟨retT HE.out.symm rfl, (Below.refl _ _)⟩
  by_cases c116 : k = 116
  · subst c116
    clear c4 c20 c36 c52 c68 c84 c100
    have hp := Wd.pw_bd (b % 32) (by omega)
    have he : Wd.doV 116 a b = (a : Int) / (Wd.pw (b % 32) : Int) := by
      rw [Wd.doV_rsh]
      have e1 : ((b : Int) % 32).toNat = b % 32 := by omega
      rw [e1]
      unfold Wd.pw
      simp
    have HE := Lib.hid he
    clear he
    have h1p : (1 : Int) ≤ (Wd.pw (b % 32) : Int) := by omega
    have hz : ((Wd.pw (b % 32) : Int) == 0) = false := by simp; omega
    have q0 : 0 ≤ (a : Int) / (Wd.pw (b % 32) : Int) := Int.ediv_nonneg (by omega) (by omega)
    have q1 : (a : Int) / (Wd.pw (b % 32) : Int) ≤ 4294967295 := Int.le_trans (Int.ediv_le_self _ (by omega)) (by omega)
    go_enter Tryd.func35, Tryd.ntmps35
    go_wp2_with fail
    refine (power_any b h3 _).mono ?_
    rintro e w' ⟨rfl, rfl⟩
    go_wp2_with fail
    go_ret2
    exact ⟨retT HE.out.symm rfl, (Below.refl _ _)⟩
  by_cases c164 : k = 164
  · subst c164
    clear c4 c20 c36 c52 c68 c84 c100 c116
    have hs := sum_xor a b h1 h3
    have HS := Lib.hid hs
    clear hs
    go_enter Tryd.func35, Tryd.ntmps35
    go_wp2_with fail
    refine (bits_any gXor (fun j hj => by unfold gXor; split <;> omega) a b h1 h3 _ _ ?_).mono ?_
    · intro j hj
      rcases j with _ | _ | _ | _ | j
      · simp [gXor]
      · simp [gXor]
      · simp [gXor]
      · simp [gXor]
      · omega
    rintro e w' ⟨rfl, nq, rfl⟩
    go_wp2_with fail
    go_ret2
    exact ⟨retT HS.out rfl, ((Below.refl _ _).alloc (Nat.le_refl _) _).trans ⟨rfl, rfl, rfl, Nat.le_refl _, fun _ _ => rfl⟩⟩
  have hv : Wd.doV k a b = 0 := by unfold Wd.doV; simp only [if_neg c4, if_neg c20, if_neg c36, if_neg c52, if_neg c68, if_neg c84, if_neg c100, if_neg c116, if_neg c164]
  have hc : Wd.doB k b = false := by unfold Wd.doB; simp [c4, c20, c36, c52, c68, c84, c100, c116, c164]
  have Hv := Lib.hid hv
  have Hc := Lib.hid hc
  have b4 : (k == 4) = false := by simpa using c4
  have b20 : (k == 20) = false := by simpa using c20
  have b36 : (k == 36) = false := by simpa using c36
  have b52 : (k == 52) = false := by simpa using c52
  have b68 : (k == 68) = false := by simpa using c68
  have b84 : (k == 84) = false := by simpa using c84
  have b100 : (k == 100) = false := by simpa using c100
  have b116 : (k == 116) = false := by simpa using c116
  have b164 : (k == 164) = false := by simpa using c164
  clear hv hc c4 c20 c36 c52 c68 c84 c100 c116 c164
  go_enter Tryd.func35, Tryd.ntmps35
  go_wp2
  go_ret2
  exact ⟨retT Hv.out.symm Hc.out.symm, (Below.refl _ _)⟩
theorem refDo_any (k a b : Int) (w : World) (h0 : 0 ≤ a) (h1 : a ≤ 4294967295) (h2 : 0 ≤ b) (h3 : b ≤ 4294967295) :
    Calls Tryd.prog 35 #[.int .i64 k, .int .u32 a, .int .u32 b] w fun e w' => e = .returned (.tuple #[.int .u32 (Wd.doV k a b), .bool (Wd.doB k b)]) ∧ Below w.heap.size w w' := by
  obtain ⟨m, rfl⟩ := Int.eq_ofNat_of_zero_le h0
  obtain ⟨n, rfl⟩ := Int.eq_ofNat_of_zero_le h2
  exact refDo_nat k m n w (by omega) (by omega)
end Go.Proofs.YtmbgcfikpndamaaDoor
/-
  What is the same for every law: what is owed once the call is known to return true and to leave all that was there as it was.
-/
namespace Go.Proofs.YtmbgcfikpndamaaDoor
open Go.ChangeShapes Go.WideShapes Go.ChangeAt Go.RowKit

section
variable {H : Type} {enc : TypeId × Value → H} {P : Program}
/-- Arguments read in a world that has only grown as they read before. -/
theorem args_stay (hl : laidOutB P = true) {W W' : World} (hb : Below W.heap.size W W') :
    ∀ (ts : List TypeId) (vs : List Value) (ds : List (DataW H)) (ps : List MemPlace), (∀ t ∈ ts, P.readableRec t = true ∧ t < P.types.size) → (∀ x ∈ ps, x.block < W.heap.size) →
      DataW.TrodAll enc P W 0 (fun _ => true) true ts vs ds ps → DataW.TrodAll enc P W' 0 (fun b => decide (b < W.heap.size)) true ts vs ds ps
  | [], _, _, _, _, _, h => by
    obtain ⟨rfl, rfl, rfl⟩ := trodAll_nil h
    exact trodAll_mk0
  | t :: ts, _, _, _, hts, hlt, h => by
    obtain ⟨v, vs, d, ds, p, q, rfl, rfl, rfl, h1, h2⟩ := trodAll_cons h
    have ht := hts t (List.mem_cons_self)
    exact trodAll_cons_mk (Below.trod hl ht.1 ht.2 h1 hb (fun x hx => hlt x (List.mem_append_left _ hx)))
      (args_stay hl hb ts vs ds q (fun u hu => hts u (List.mem_cons_of_mem _ hu)) (fun x hx => hlt x (List.mem_append_right _ hx)) h2)

/-- What a law owes behind its call: true was returned, and nothing below the heap's old size has changed. -/
theorem law_post {f : Func} {s : ChangeSpec} {tb : TypeId} (hl : laidOutB P = true) (hts : ∀ t ∈ f.params.toList, P.readableRec t = true ∧ t < P.types.size) (hrt : f.resultTypes = #[tb]) (htb : P.underlying tb = some .bool)
    (hv : s.vars = []) (hfn : ∀ ds : List (DataW H), ds.length = f.params.toList.length → s.fn H ds = { results := [.lit (.bool true)], args := ds })
    {W W' : World} {args : Array Value} {ds gs : List (DataW H)} {before : List MemPlace} (hW : DataW.Whole enc P f.params.toList s.vars false W args.toList ds gs before) (hB : Below W.heap.size W W') :
    s.post enc P f false true false false W args (.bool true) W' := by
  have hlt : ∀ x ∈ before, x.block < W.heap.size := fun x hx => by simpa using hW.lt x hx
  have hW' := hW
  obtain ⟨p, q, hA, hV, rfl, _, _⟩ := hW
  rw [hv] at hV
  obtain ⟨rfl, rfl⟩ := trodVars_none hV
  have hlen : ds.length = f.params.toList.length := by
    have aux : ∀ (ts : List TypeId) (vs : List Value) (ds : List (DataW H)) (ps : List MemPlace), DataW.TrodAll enc P W 0 (fun _ => true) true ts vs ds ps → ds.length = ts.length := by
      intro ts
      induction ts with
      | nil => intro vs ds ps h; obtain ⟨_, rfl, _⟩ := trodAll_nil h; rfl
      | cons t ts ih =>
        intro vs ds ps h
        obtain ⟨v, vs, d, ds, p, q, _, rfl, _, _, h2⟩ := trodAll_cons h
        simp [ih vs ds q h2]
    exact aux _ _ _ _ hA
  have e := hfn ds hlen
  refine ⟨ds, [], _, [], p, [], hW', ?_, ?_, ?_, ?_, fun h => by cases h⟩
  · rw [List.append_nil, e, hrt]
    exact trodAll_cons_mk (shut_bool htb _) trodAll_mk0
  · rw [List.append_nil, e]
    exact args_stay hl hB _ _ _ _ hts (fun x hx => hlt x (List.mem_append_left _ hx)) hA
  · rw [List.append_nil, e, hv]
    exact rfl
  · exact hB.frame _
end

theorem own : ownKnob Tryd.prog.godebug = none := by kernel_rfl
theorem laidOut : laidOutB Tryd.prog = true := by kernel_rfl

end Go.Proofs.YtmbgcfikpndamaaDoor

/-
  An argument that is bytes: what the row's reading of it gives of the world's cells.
-/
namespace Go.Proofs.YtmbgcfikpndamaaDoor
open Go.ChangeShapes Go.WideShapes Go.ChangeAt Go.RowKit Go.Deep
set_option maxRecDepth 100000

section
variable {H : Type} {enc : TypeId × Value → H} {W : World} {base : Nat} {v : Value} {d : DataW H} {p : List MemPlace}
end
end Go.Proofs.YtmbgcfikpndamaaDoor
/-
  An argument that is a record: what the row's reading of it gives.
-/
namespace Go.Proofs.YtmbgcfikpndamaaDoor
open Go.ChangeShapes Go.WideShapes Go.ChangeAt Go.RowKit Go.Deep
set_option maxRecDepth 100000

theorem cellsD : Tryd.prog.cellsOf 49 = 9 := by kernel_rfl
theorem cellsU64 : Tryd.prog.cellsOf 46 = 1 := by kernel_rfl
theorem list9 {α : Type} {l : List α} (h : l.length = 9) : ∃ x0 x1 x2 x3 x4 x5 x6 x7 x8, l = [x0, x1, x2, x3, x4, x5, x6, x7, x8] := by
  match l, h with
  | [x0, x1, x2, x3, x4, x5, x6, x7, x8], _ => exact ⟨x0, x1, x2, x3, x4, x5, x6, x7, x8, rfl⟩
section
variable {H : Type} {enc : TypeId × Value → H} {W : World} {base : Nat} {v : Value} {d : DataW H} {p : List MemPlace}
theorem one_u32 {n : Nat} {c : Value} {y : DataW H × List MemPlace} (h : DataW.trod enc Tryd.prog W 0 (fun _ => true) true n 28 [c] = some y) : ∃ k : Nat, c = .int .u32 k ∧ k < 4294967296 := by
  obtain ⟨z, e, _, w⟩ := DataW.trod_int Tryd.underlying28 h
  simp only [List.cons.injEq, and_true] at e
  have b := bounds_u32 w
  refine ⟨z.toNat, ?_, by omega⟩
  rw [e]
  congr 1
  omega
theorem one_u64 {n : Nat} {c : Value} {y : DataW H × List MemPlace} (h : DataW.trod enc Tryd.prog W 0 (fun _ => true) true n 46 [c] = some y) : ∃ k : Nat, c = .int .u64 k ∧ k < 18446744073709551616 := by
  obtain ⟨z, e, _, w⟩ := DataW.trod_int Tryd.underlying46 h
  simp only [List.cons.injEq, and_true] at e
  have b := bounds_u64 w
  refine ⟨z.toNat, ?_, by omega⟩
  rw [e]
  congr 1
  omega
theorem open_data (hval : Value.okWide Tryd.prog W .any base 49 v) (h : DataW.Trod enc Tryd.prog W 0 (fun _ => true) true 49 v d p) : ∃ D : Rec, v = D.val ∧ D.ok := by
  obtain ⟨cs, rfl, hsz⟩ := okWide_struct Tryd.underlying49 hval
  rw [cellsD] at hsz
  obtain ⟨c0, c1, c2, c3, c4, c5, c6, c7, c8, hc⟩ := list9 (l := cs.toList) (by simpa using hsz)
  obtain rfl : cs = #[c0, c1, c2, c3, c4, c5, c6, c7, c8] := by rw [← hc]
  obtain ⟨fuel, hf⟩ := h
  obtain ⟨ys, n, _, _, _, hyl, hff⟩ := DataW.trod_struct Tryd.underlying49 hf
  have hy4 : ys.length = 4 := hyl
  match ys, hy4 with
  | [y0, y1, y2, y3], _ =>
    have h0 : DataW.trod enc Tryd.prog W 0 (fun _ => true) true n 28 [c0] = some y0 := hff 0 _ rfl
    have h1 : DataW.trod enc Tryd.prog W 0 (fun _ => true) true n 28 [c1] = some y1 := hff 1 _ rfl
    have h2 : DataW.trod enc Tryd.prog W 0 (fun _ => true) true n 46 [c2] = some y2 := hff 2 _ rfl
    have h3 : DataW.trod enc Tryd.prog W 0 (fun _ => true) true n 47 [c3, c4, c5, c6, c7, c8] = some y3 := hff 3 _ rfl
    obtain ⟨xs, m, _, _, _, hxl, hxx⟩ := DataW.trod_array Tryd.underlying47 h3
    rw [cellsU64] at hxx
    match xs, hxl with
    | [x0, x1, x2, x3, x4, x5], _ =>
      have g0 : DataW.trod enc Tryd.prog W 0 (fun _ => true) true m 46 [c3] = some x0 := hxx 0 (by omega)
      have g1 : DataW.trod enc Tryd.prog W 0 (fun _ => true) true m 46 [c4] = some x1 := hxx 1 (by omega)
      have g2 : DataW.trod enc Tryd.prog W 0 (fun _ => true) true m 46 [c5] = some x2 := hxx 2 (by omega)
      have g3 : DataW.trod enc Tryd.prog W 0 (fun _ => true) true m 46 [c6] = some x3 := hxx 3 (by omega)
      have g4 : DataW.trod enc Tryd.prog W 0 (fun _ => true) true m 46 [c7] = some x4 := hxx 4 (by omega)
      have g5 : DataW.trod enc Tryd.prog W 0 (fun _ => true) true m 46 [c8] = some x5 := hxx 5 (by omega)
      obtain ⟨k0, rfl, b0⟩ := one_u32 h0
      obtain ⟨k1, rfl, b1⟩ := one_u32 h1
      obtain ⟨k2, rfl, b2⟩ := one_u64 h2
      obtain ⟨k3, rfl, b3⟩ := one_u64 g0
      obtain ⟨k4, rfl, b4⟩ := one_u64 g1
      obtain ⟨k5, rfl, b5⟩ := one_u64 g2
      obtain ⟨k6, rfl, b6⟩ := one_u64 g3
      obtain ⟨k7, rfl, b7⟩ := one_u64 g4
      obtain ⟨k8, rfl, b8⟩ := one_u64 g5
      exact ⟨⟨k0, k1, k2, k3, k4, k5, k6, k7, k8⟩, rfl, b0, b1, b2, b3, b4, b5, b6, b7, b8⟩
end
/-- The nine cells of a record's block. -/
theorem rec_cells {w : World} {g : Nat} {d : Rec} {t : TypeId} {fr : Nat × Nat} (h : w.heap[g]? = some (.cells d.cells t fr)) : w.cell? ⟨g, 0, none⟩ = some (.int .u32 d.nr) ∧ w.cell? ⟨g, 1, none⟩ = some (.int .u32 d.arch) ∧ w.cell? ⟨g, 2, none⟩ = some (.int .u64 d.ip) ∧ w.cell? ⟨g, 3, none⟩ = some (.int .u64 d.a0) ∧ w.cell? ⟨g, 4, none⟩ = some (.int .u64 d.a1) ∧ w.cell? ⟨g, 5, none⟩ = some (.int .u64 d.a2) ∧ w.cell? ⟨g, 6, none⟩ = some (.int .u64 d.a3) ∧ w.cell? ⟨g, 7, none⟩ = some (.int .u64 d.a4) ∧ w.cell? ⟨g, 8, none⟩ = some (.int .u64 d.a5) :=
  ⟨cell_in h 0, cell_in h 1, cell_in h 2, cell_in h 3, cell_in h 4, cell_in h 5, cell_in h 6, cell_in h 7, cell_in h 8⟩
end Go.Proofs.YtmbgcfikpndamaaDoor
/-
  What run.Takes and run.skips answer.
-/
namespace Go.Proofs.YtmbgcfikpndamaaDoor
open Go.ChangeShapes Go.WideShapes Go.ChangeAt Go.RowKit
set_option maxRecDepth 20000

theorem beq_cast (a b : Nat) : ((a : Int) == (b : Int)) = (a == b) := Bool.eq_iff_iff.2 (by simp [Int.natCast_inj])
/-- How many instructions a run leaves out behind an instruction. -/
def skipS (s : St) (x : X4) : Int := if x.op = 5 then x.k else if isBranch x.op then (if takesS s x then x.jt else x.jf) else 0
theorem skip_place (s : St) (x : X4) (p : Nat) (hx : x.ok) (h1 : 0 ≤ x.jt) (h2 : 0 ≤ x.jf) : ((placeS s x p : Nat) : Int) = p + skipS s x + 1 ∧ 0 ≤ skipS s x := by
  have hk := hx.1
  unfold placeS skipS
  split
  · omega
  · split
    · split <;> omega
    · omega
end Go.Proofs.YtmbgcfikpndamaaDoor
/-
  What run.Run answers, for any filter that lies in a world, and any record.
-/
namespace Go.Proofs.YtmbgcfikpndamaaDoor
open Go.ChangeShapes Go.WideShapes Go.ChangeAt Go.RowKit
set_option maxRecDepth 20000

section
variable {l : List X4} {d : Rec} {s : St} {p c : Nat}
end
theorem nat_k {x : X4} (h : x.ok) : ∃ k : Nat, x.k = k ∧ k < 4294967296 := ⟨x.k.toNat, by have := h.1; omega, by have := h.1; have := h.2; omega⟩
theorem branch_all : ∀ i, i < 39 → isBranch (Ip.refOps.getD i 0) = true → Ip.refOps.getD i 0 ∈ ([21, 29, 37, 45, 53, 61, 69, 77] : List Int) := by decide +kernel
theorem branch_ops {op : Int} (h : isBranch op = true) : op ∈ ([21, 29, 37, 45, 53, 61, 69, 77] : List Int) := by
  rcases Ip.plc_cases op with ⟨i, hi, _, hq, _, _⟩ | ⟨_, hb⟩
  · rw [hq] at h ⊢
    exact branch_all i hi h
  · unfold isBranch at h
    rw [hb] at h
    cases h
theorem insX {w : World} {g : Nat} {op jt jf k : Int} (h : w.heap[g]? = some (insB op jt jf k)) : w.cell? ⟨g, 0, none⟩ = some (.int .i64 op) ∧ w.cell? ⟨g, 1, none⟩ = some (.int .i64 jt) ∧ w.cell? ⟨g, 2, none⟩ = some (.int .i64 jf) ∧ w.cell? ⟨g, 3, none⟩ = some (.int .u32 k) :=
  ⟨cell_in h 0, cell_in h 1, cell_in h 2, cell_in h 3⟩

end Go.Proofs.YtmbgcfikpndamaaDoor
/-
  Code that grows at its front, plainly: what Add, Jump and Branch make of it; that it stays sound, and that a run from a label is what it was.
-/
namespace Go.Proofs.YtmbgcfikpndamaaDoor
open Go.RowKit

abbrev G3 := List X4 × Int × Int
def isLab (c : List X4) (l : Int) : Bool := decide (1 ≤ l) && decide (l ≤ c.length)
theorem isLab_iff {c : List X4} {l : Int} : isLab c l = true ↔ 1 ≤ l ∧ l ≤ c.length := by unfold isLab; simp
/-- A jump to a label. -/
def jaTo (c : List X4) (q : Int) : X4 := ⟨5, 0, 0, (c.length : Int) - q⟩
def plainX (x : X4) : Bool := x.right && !(x.op == 5) && !isBranch x.op
def addN (c : List X4) (x : X4) : G3 := if plainX x then (x :: c, (c.length : Int) + 1, 0) else (c, 0, 1)
def jumpN (c : List X4) (q : Int) : G3 := if isLab c q then (if q = c.length then (c, q, 0) else (jaTo c q :: c, (c.length : Int) + 1, 0)) else (c, 0, 4)
/-- The code, and the label, by which a branch comes to a label. -/
def nearN (c : List X4) (q : Int) : List X4 × Int := if (c.length : Int) - q ≤ 254 then (c, q) else (jaTo c q :: c, (c.length : Int) + 1)
def brX (op k : Int) (c : List X4) (t f : Int) : X4 := ⟨op, (c.length : Int) - t, (c.length : Int) - f, k⟩
/-- The code of both labels' jumps. -/
def nearC (c : List X4) (t f : Int) : List X4 := (nearN (nearN c t).1 f).1
def brTo (c : List X4) (op k t f : Int) : X4 := brX op k (nearC c t f) (nearN c t).2 (nearN (nearN c t).1 f).2
def branchN (c : List X4) (op k t f : Int) : G3 :=
  if right op 0 0 k && isBranch op then (if isLab c t && isLab c f then (brTo c op k t f :: nearC c t f, ((nearC c t f).length : Int) + 1, 0) else (c, 0, 4)) else (c, 0, 1)

/-! ### Lengths, ends, numbers -/
theorem nearN_cases (c : List X4) (q : Int) : ((c.length : Int) - q ≤ 254 ∧ nearN c q = (c, q)) ∨ (254 < (c.length : Int) - q ∧ nearN c q = (jaTo c q :: c, (c.length : Int) + 1)) := by
  unfold nearN
  split
  · exact .inl ⟨by assumption, rfl⟩
  · exact .inr ⟨by omega, rfl⟩
theorem nearN_len (c : List X4) (q : Int) : c.length ≤ (nearN c q).1.length ∧ (nearN c q).1.length ≤ c.length + 1 := by
  rcases nearN_cases c q with ⟨_, h⟩ | ⟨_, h⟩ <;> rw [h] <;> simp
theorem nearN_end (c : List X4) (q : Int) : ∃ p, (nearN c q).1 = p ++ c := by
  rcases nearN_cases c q with ⟨_, h⟩ | ⟨_, h⟩ <;> rw [h]
  · exact ⟨[], rfl⟩
  · exact ⟨[jaTo c q], rfl⟩
theorem nearN_lab {c : List X4} {q : Int} (h : isLab c q = true) : isLab (nearN c q).1 (nearN c q).2 = true ∧ ((nearN c q).1.length : Int) - (nearN c q).2 ≤ 254 := by
  rw [isLab_iff] at h
  rcases nearN_cases c q with ⟨h1, h2⟩ | ⟨h1, h2⟩ <;> rw [h2, isLab_iff]
  · simp only; omega
  · simp only [List.length_cons]; omega
theorem lab_more {c d : List X4} {l : Int} (h : isLab c l = true) (hl : c.length ≤ d.length) : isLab d l = true := by
  rw [isLab_iff] at h ⊢
  omega
theorem nearC_len (c : List X4) (t f : Int) : c.length ≤ (nearC c t f).length ∧ (nearC c t f).length ≤ c.length + 2 := by
  have h1 := nearN_len c t
  have h2 := nearN_len (nearN c t).1 f
  unfold nearC
  omega
theorem nearC_end (c : List X4) (t f : Int) : ∃ p, nearC c t f = p ++ c := by
  obtain ⟨p, hp⟩ := nearN_end c t
  obtain ⟨q, hq⟩ := nearN_end (nearN c t).1 f
  exact ⟨q ++ p, by unfold nearC; rw [hq, hp, List.append_assoc]⟩
/-- Where the branch goes: at most 255 on, and to labels. -/
theorem nearC_bd {c : List X4} {t f : Int} (ht : isLab c t = true) (hf : isLab c f = true) :
    isLab (nearC c t f) (nearN c t).2 = true ∧ isLab (nearC c t f) (nearN (nearN c t).1 f).2 = true ∧ ((nearC c t f).length : Int) - (nearN c t).2 ≤ 255 ∧ ((nearC c t f).length : Int) - (nearN (nearN c t).1 f).2 ≤ 255 := by
  obtain ⟨a1, a2⟩ := nearN_lab ht
  have l1 := nearN_len c t
  obtain ⟨b1, b2⟩ := nearN_lab (lab_more hf l1.1)
  have l2 := nearN_len (nearN c t).1 f
  unfold nearC
  exact ⟨lab_more a1 l2.1, b1, by omega, by omega⟩
theorem ok_cons {x : X4} {f : List X4} (hx : x.ok) (h : ∀ y ∈ f, y.ok) : ∀ y ∈ x :: f, y.ok := fun y hy => by
  rcases List.mem_cons.1 hy with rfl | hy
  · exact hx
  · exact h y hy
theorem ja_ok {c : List X4} {q : Int} (h : isLab c q = true) (hl : c.length ≤ 4000) : (jaTo c q).ok := by
  rw [isLab_iff] at h
  exact ⟨by show 0 ≤ (c.length : Int) - q; omega, by show (c.length : Int) - q ≤ 4294967295; omega⟩
theorem nearN_ok {c : List X4} {q : Int} (h : isLab c q = true) (hl : c.length ≤ 4000) (hk : ∀ x ∈ c, x.ok) : ∀ x ∈ (nearN c q).1, x.ok := by
  rcases nearN_cases c q with ⟨_, h2⟩ | ⟨_, h2⟩ <;> rw [h2]
  · exact hk
  · exact ok_cons (ja_ok h hl) hk
theorem nearC_ok {c : List X4} {t f : Int} (ht : isLab c t = true) (hf : isLab c f = true) (hl : c.length ≤ 3000) (hk : ∀ x ∈ c, x.ok) : ∀ x ∈ nearC c t f, x.ok := by
  have l1 := nearN_len c t
  exact nearN_ok (lab_more hf l1.1) (by omega) (nearN_ok ht (by omega) hk)

/-! ### Acts -/
structure A4 where
  kind : Int
  x : X4
  t : Nat
  f : Nat
/-- The label of a number. -/
def atN (c : List X4) (n : Nat) : Int := if c.length = 0 then 0 else 1 + ((n % c.length : Nat) : Int)
theorem atN_lab {c : List X4} (n : Nat) (h : 0 < c.length) : isLab c (atN c n) = true := by
  have := Nat.mod_lt n h
  rw [isLab_iff]
  unfold atN
  rw [if_neg (by omega)]
  omega
def doN (c : List X4) (a : A4) : G3 := if a.kind = 0 then addN c a.x else if a.kind = 1 then jumpN c (atN c a.t) else branchN c a.x.op a.x.k (atN c a.t) (atN c a.f)
/-- What each of the three answers: the code as it was, or what stands behind a jump, an instruction or a branch. -/
theorem addN_len (c : List X4) (x : X4) : c.length ≤ (addN c x).1.length ∧ (addN c x).1.length ≤ c.length + 3 := by
  unfold addN
  split <;> simp
theorem jumpN_len (c : List X4) (t : Int) : c.length ≤ (jumpN c t).1.length ∧ (jumpN c t).1.length ≤ c.length + 3 := by
  unfold jumpN
  repeat' split
  all_goals simp
theorem branchN_len (c : List X4) (op k t f : Int) : c.length ≤ (branchN c op k t f).1.length ∧ (branchN c op k t f).1.length ≤ c.length + 3 := by
  have := nearC_len c t f
  unfold branchN
  repeat' split
  all_goals simp
  omega
theorem doN_len (c : List X4) (a : A4) : c.length ≤ (doN c a).1.length ∧ (doN c a).1.length ≤ c.length + 3 := by
  unfold doN
  repeat' split
  · exact addN_len c a.x
  · exact jumpN_len c _
  · exact branchN_len c _ _ _ _
theorem doN_end (c : List X4) (a : A4) : ∃ p, (doN c a).1 = p ++ c := by
  obtain ⟨p, hp⟩ := nearC_end c (atN c a.t) (atN c a.f)
  unfold doN addN jumpN branchN
  repeat' split
  all_goals first
    | exact ⟨[], rfl⟩
    | exact ⟨[_], rfl⟩
    | exact ⟨brTo c a.x.op a.x.k (atN c a.t) (atN c a.f) :: p, by simp only [hp, List.cons_append]⟩
theorem addN_ok {c : List X4} {x : X4} (hx : x.ok) (hk : ∀ y ∈ c, y.ok) : ∀ y ∈ (addN c x).1, y.ok := by
  unfold addN
  split
  · exact ok_cons hx hk
  · exact hk
theorem jumpN_ok {c : List X4} {t : Int} (hl : c.length ≤ 4000) (hk : ∀ y ∈ c, y.ok) : ∀ y ∈ (jumpN c t).1, y.ok := by
  unfold jumpN
  split
  · split
    · exact hk
    · exact ok_cons (ja_ok (by assumption) hl) hk
  · exact hk
theorem branchN_ok {c : List X4} {op k t f : Int} (hl : c.length ≤ 3000) (h0 : 0 ≤ k) (h1 : k ≤ 4294967295) (hk : ∀ y ∈ c, y.ok) : ∀ y ∈ (branchN c op k t f).1, y.ok := by
  unfold branchN
  split
  · split
    · rename_i h
      rw [Bool.and_eq_true] at h
      exact ok_cons ⟨h0, h1⟩ (nearC_ok h.1 h.2 hl hk)
    · exact hk
  · exact hk
theorem doN_ok {c : List X4} {a : A4} (hl : c.length ≤ 3000) (hx : a.x.ok) (hk : ∀ y ∈ c, y.ok) : ∀ y ∈ (doN c a).1, y.ok := by
  unfold doN
  repeat' split
  · exact addN_ok hx hk
  · exact jumpN_ok (by omega) hk
  · exact branchN_ok hl hx.1 hx.2 hk

/-! ### Sound code -/
theorem sound_cons {l : List X4} {x : X4} (h : SoundL l) (hl : l.length ≤ 4000) (hz : oneE x l.length = 0) : SoundL (x :: l) := by
  obtain ⟨h0, h1, hg, he⟩ := h
  refine ⟨by simp, by simp; omega, ?_, ?_⟩
  · intro i hi
    match i with
    | 0 =>
      unfold badAt
      rw [List.getD_cons_zero, List.length_cons, show (((l.length + 1 : Nat) : Int) - 1 - ((0 : Nat) : Int)) = (l.length : Int) by omega]
      exact hz
    | i + 1 =>
      have h2 := hg i (by simpa using hi)
      unfold badAt at h2 ⊢
      rw [List.getD_cons_succ, List.length_cons, show (((l.length + 1 : Nat) : Int) - 1 - ((i + 1 : Nat) : Int)) = (l.length : Int) - 1 - (i : Int) by omega]
      exact h2
  · unfold lastX at he ⊢
    rw [List.length_cons, Nat.add_sub_cancel, show l.length = (l.length - 1) + 1 by omega, List.getD_cons_succ]
    exact he
theorem right_ja (k : Int) : right 5 0 0 k = true := by
  have h1 : (Ip.byOp 5).isSome = true := by decide
  have h2 : Ip.hasK ((Ip.byOp 5).getD Ip.zeroRow).fmt = true := by decide
  have h3 : Ip.hasJ ((Ip.byOp 5).getD Ip.zeroRow).fmt = false := by decide
  unfold right Ip.fits
  rw [h1, h2, h3]
  rfl
theorem right_branch {op k jt jf : Int} (hr : right op 0 0 k = true) (hb : isBranch op = true) (h0 : 0 ≤ jt) (h1 : jt ≤ 255) (h2 : 0 ≤ jf) (h3 : jf ≤ 255) : right op jt jf k = true := by
  unfold isBranch at hb
  rw [Bool.and_eq_true] at hb
  unfold right Ip.fits at hr ⊢
  rw [hb.1, hb.2] at hr ⊢
  have e1 : Ip.isJ jt = true := by unfold Ip.isJ; simp; omega
  have e2 : Ip.isJ jf = true := by unfold Ip.isJ; simp; omega
  simp only [Bool.true_and, if_true, Bool.and_eq_true] at hr ⊢
  exact ⟨hr.1, e1, e2⟩
theorem one_ja {k n : Int} (h0 : 0 ≤ k) (h : k < n) : oneE ⟨5, 0, 0, k⟩ n = 0 := by
  have hr : (⟨5, 0, 0, k⟩ : X4).right = true := right_ja k
  rw [one_kind _ _ h0, hr]
  have hk : kindOf 5 = 5 := by decide
  simp only [hk, Bool.true_eq_false, if_false]
  have : (holdsB 5 0 0 k n) = true := by unfold holdsB; simpa using h
  rw [this]
  rfl
theorem one_branch {op k jt jf n : Int} (hk : 0 ≤ k) (hr : right op 0 0 k = true) (hb : isBranch op = true) (h0 : 0 ≤ jt) (h1 : jt ≤ 255) (h2 : 0 ≤ jf) (h3 : jf ≤ 255) (ht : jt < n) (hf : jf < n) : oneE ⟨op, jt, jf, k⟩ n = 0 := by
  have hr : (⟨op, jt, jf, k⟩ : X4).right = true := right_branch hr hb h0 h1 h2 h3
  rw [one_kind _ _ hk, hr]
  rw [branch_kind] at hb
  have hb : kindOf op = 6 := by simpa using hb
  simp only [hb, Bool.true_eq_false, if_false]
  have : (holdsB 6 jt jf k n) = true := by unfold holdsB; simp; omega
  rw [this]
  rfl
theorem nearN_sound {c : List X4} {q : Int} (h : isLab c q = true) (hl : c.length ≤ 3998) (hs : SoundL c) : SoundL (nearN c q).1 := by
  rcases nearN_cases c q with ⟨_, h2⟩ | ⟨_, h2⟩ <;> rw [h2]
  · exact hs
  · rw [isLab_iff] at h
    exact sound_cons hs (by omega) (one_ja (by omega) (by omega))
theorem nearC_sound {c : List X4} {t f : Int} (ht : isLab c t = true) (hf : isLab c f = true) (hl : c.length ≤ 3000) (hs : SoundL c) : SoundL (nearC c t f) := by
  have l1 := nearN_len c t
  exact nearN_sound (lab_more hf l1.1) (by omega) (nearN_sound ht (by omega) hs)
theorem brTo_one {c : List X4} {op k t f : Int} (hk : 0 ≤ k) (hr : right op 0 0 k = true) (hb : isBranch op = true) (ht : isLab c t = true) (hf : isLab c f = true) : oneE (brTo c op k t f) (nearC c t f).length = 0 := by
  obtain ⟨h1, h2, h3, h4⟩ := nearC_bd ht hf
  rw [isLab_iff] at h1 h2
  unfold brTo brX
  exact one_branch hk hr hb (by omega) (by omega) (by omega) (by omega) (by omega) (by omega)

/-! ### Runs from a label -/
/-- What comes of a run from a label. -/
def labR (c : List X4) (d : Rec) (s : St) (l : Int) : Nat := (fromS c d c.length s ((c.length : Int) - l).toNat).1
theorem labR_any {c : List X4} (hs : SoundL c) (hok : ∀ x ∈ c, x.ok) (d : Rec) (s : St) {l : Int} (hl : isLab c l = true) (n : Nat) (hn : l ≤ n) : (fromS c d n s ((c.length : Int) - l).toNat).1 = labR c d s l := by
  rw [isLab_iff] at hl
  unfold labR
  rw [fromS_more hs hok d n c.length s _ (by omega) (by omega) (by omega)]
theorem labR_cons {c : List X4} (hs : SoundL c) (hok : ∀ x ∈ c, x.ok) (x : X4) (d : Rec) (s : St) {l : Int} (hl : isLab c l = true) : labR (x :: c) d s l = labR c d s l := by
  have h := isLab_iff.1 hl
  have e : (((x :: c).length : Int) - l).toNat = [x].length + ((c.length : Int) - l).toNat := by simp only [List.length_cons, List.length_nil]; omega
  show (fromS (x :: c) d _ s _).1 = _
  rw [e]
  have e2 := fromS_behind [x] c d (x :: c).length s ((c.length : Int) - l).toNat
  rw [List.cons_append, List.nil_append] at e2
  rw [e2]
  exact labR_any hs hok d s hl _ (by rw [List.length_cons]; omega)
theorem alu_not {op : Int} (h : op = 5 ∨ isBranch op = true) : aluB op = false := by
  rcases h with rfl | h
  · exact alu5
  · have := branch_ops h
    simp only [List.mem_cons, List.not_mem_nil, or_false] at this
    rcases this with rfl | rfl | rfl | rfl | rfl | rfl | rfl | rfl <;> decide
theorem labR_step {c : List X4} (x : X4) (d : Rec) (s : St) (hx : x.op = 5 ∨ isBranch x.op = true) (P : Nat) (hP : placeS s x 0 = P + 1) :
    labR (x :: c) d s ((c.length : Int) + 1) = (fromS c d c.length s P).1 := by
  have ha := alu_not hx
  have hn : ¬ x.op = 6 ∧ ¬ x.op = 22 ∧ ¬ x.op = 0 ∧ ¬ x.op = 1 ∧ ¬ x.op = 32 ∧ ¬ x.op = 96 ∧ ¬ x.op = 97 ∧ ¬ x.op = 2 ∧ ¬ x.op = 3 ∧ ¬ x.op = 7 ∧ ¬ x.op = 135 ∧ ¬ x.op = 132 := by
    rcases hx with h | h
    · omega
    · have := branch_ops h
      simp only [List.mem_cons, List.not_mem_nil, or_false] at this
      omega
  have hg : goesS s x = true := by unfold goesS; rw [ha]; rfl
  have hst : stepS s x d = s := by
    obtain ⟨_, _, n0, n1, n32, n96, n97, n2, n3, n7, n135, n132⟩ := hn
    unfold stepS
    rw [ha, if_neg (by decide), if_neg n0, if_neg n1, if_neg n32, if_neg n96, if_neg n97, if_neg n2, if_neg n3, if_neg n7, if_neg n135, if_neg n132]
  unfold labR
  rw [show (((x :: c).length : Int) - ((c.length : Int) + 1)).toNat = 0 by rw [List.length_cons]; omega, List.length_cons, fromS_succ, List.getD_cons_zero, if_neg hn.1, if_neg hn.2.1, hg, if_neg (by decide), hst, hP]
  simp only
  have e2 := fromS_behind [x] c d c.length s P
  rw [List.cons_append, List.nil_append, List.length_singleton, Nat.add_comm] at e2
  rw [e2]
theorem labR_ja {c : List X4} (d : Rec) (s : St) (q : Int) : labR (jaTo c q :: c) d s ((c.length : Int) + 1) = labR c d s q := by
  rw [labR_step (jaTo c q) d s (.inl rfl) ((c.length : Int) - q).toNat]
  · rfl
  · unfold placeS jaTo
    rw [if_pos rfl]
    simp only
    omega
theorem labR_near {c : List X4} (d : Rec) (s : St) (q : Int) : labR (nearN c q).1 d s (nearN c q).2 = labR c d s q := by
  rcases nearN_cases c q with ⟨_, h2⟩ | ⟨_, h2⟩ <;> rw [h2]
  exact labR_ja d s q
theorem labR_nearO {c : List X4} (hs : SoundL c) (hok : ∀ x ∈ c, x.ok) (d : Rec) (s : St) (q : Int) {l : Int} (hl : isLab c l = true) : labR (nearN c q).1 d s l = labR c d s l := by
  rcases nearN_cases c q with ⟨_, h2⟩ | ⟨_, h2⟩ <;> rw [h2]
  exact labR_cons hs hok _ d s hl
theorem labR_branch {c : List X4} (hs : SoundL c) (hok : ∀ x ∈ c, x.ok) (hlen : c.length ≤ 3000) (d : Rec) (s : St) {op k t f : Int} (hb : isBranch op = true) (ht : isLab c t = true) (hf : isLab c f = true) :
    labR (brTo c op k t f :: nearC c t f) d s (((nearC c t f).length : Int) + 1) = labR c d s (if takesS s ⟨op, 0, 0, k⟩ then t else f) := by
  obtain ⟨h1, h2, h3, h4⟩ := nearC_bd ht hf
  have g1 := isLab_iff.1 h1
  have g2 := isLab_iff.1 h2
  have l1 := nearN_len c t
  have hs1 := nearN_sound ht (by omega) hs
  have hok1 := nearN_ok ht (by omega) hok
  have hf1 := lab_more hf l1.1
  have h5 : ¬ op = 5 := fun h => by rw [h] at hb; revert hb; decide
  have hop : (brTo c op k t f).op = op := rfl
  rw [labR_step (brTo c op k t f) d s (.inr hb) (((nearC c t f).length : Int) - (if takesS s ⟨op, 0, 0, k⟩ then (nearN c t).2 else (nearN (nearN c t).1 f).2)).toNat]
  · show labR (nearC c t f) d s _ = _
    cases takesS s ⟨op, 0, 0, k⟩
    · simp only [Bool.false_eq_true, if_false]
      unfold nearC
      rw [labR_near d s f, labR_nearO hs hok d s t hf]
    · simp only [if_true]
      unfold nearC
      rw [labR_nearO hs1 hok1 d s f (nearN_lab ht).1, labR_near d s t]
  · unfold placeS
    rw [hop, if_neg h5, if_pos hb, show takesS s (brTo c op k t f) = takesS s ⟨op, 0, 0, k⟩ from rfl]
    unfold brTo brX
    cases takesS s ⟨op, 0, 0, k⟩
    · simp only [Bool.false_eq_true, if_false]
      omega
    · simp only [if_true]
      omega

/-! ### What an act does -/
/-- An act that was done: the code is sound, its front's label is one, and a run from there comes to what the label's comes to. -/
theorem doN_sound {c : List X4} {a : A4} (hs : SoundL c) (hlen : c.length ≤ 3000) (hx : a.x.ok) (h1 : a.kind = 0 → oneE a.x 1 = 0) (he : (doN c a).2.2 = 0) :
    SoundL (doN c a).1 ∧ isLab (doN c a).1 (doN c a).2.1 = true := by
  have hpos : 0 < c.length := hs.1
  have ht := atN_lab a.t hpos
  have hf := atN_lab a.f hpos
  by_cases k0 : a.kind = 0
  · unfold doN at he ⊢
    rw [if_pos k0] at he ⊢
    unfold addN at he ⊢
    split at he
    · rename_i hp
      rw [if_pos hp, isLab_iff]
      simp only [List.length_cons]
      exact ⟨sound_cons hs (by omega) (one_more (h1 k0) (by omega)), by omega, by omega⟩
    · simp at he
  by_cases k1 : a.kind = 1
  · unfold doN at he ⊢
    rw [if_neg k0, if_pos k1] at he ⊢
    unfold jumpN at he ⊢
    rw [if_pos ht]
    split
    · exact ⟨hs, ht⟩
    · rw [isLab_iff] at ht ⊢
      simp only [List.length_cons]
      exact ⟨sound_cons hs (by omega) (one_ja (by omega) (by omega)), by omega, by omega⟩
  · unfold doN at he ⊢
    rw [if_neg k0, if_neg k1] at he ⊢
    unfold branchN at he ⊢
    split at he
    · rename_i hp
      rw [if_pos hp, if_pos (by rw [ht, hf]; rfl), isLab_iff]
      rw [Bool.and_eq_true] at hp
      simp only [List.length_cons]
      have l := nearC_len c (atN c a.t) (atN c a.f)
      exact ⟨sound_cons (nearC_sound ht hf hlen hs) (by omega) (brTo_one hx.1 hp.1 hp.2 ht hf), by omega, by omega⟩
    · simp at he
theorem doN_means {c : List X4} {a : A4} (hs : SoundL c) (hok : ∀ x ∈ c, x.ok) (hlen : c.length ≤ 3000) (d : Rec) (s : St) (k0 : ¬ a.kind = 0) (he : (doN c a).2.2 = 0) :
    labR (doN c a).1 d s (doN c a).2.1 = labR c d s (if a.kind = 1 then atN c a.t else if takesS s ⟨a.x.op, 0, 0, a.x.k⟩ then atN c a.t else atN c a.f) := by
  have hpos : 0 < c.length := hs.1
  have ht := atN_lab a.t hpos
  have hf := atN_lab a.f hpos
  by_cases k1 : a.kind = 1
  · rw [if_pos k1]
    unfold doN
    rw [if_neg k0, if_pos k1]
    unfold jumpN
    rw [if_pos ht]
    split
    · rfl
    · exact labR_ja d s _
  · rw [if_neg k1]
    unfold doN at he ⊢
    rw [if_neg k0, if_neg k1] at he ⊢
    unfold branchN at he ⊢
    split at he
    · rename_i hp
      rw [if_pos hp, if_pos (by rw [ht, hf]; rfl)]
      rw [Bool.and_eq_true] at hp
      exact labR_branch hs hok hlen d s hp.2 ht hf
    · simp at he
/-- How many jumps a branch brings. -/
theorem far_cases (c : List X4) (t f : Int) : ((c.length : Int) - t ≤ 254 ∧ (c.length : Int) - f ≤ 254 ∧ (nearC c t f).length = c.length) ∨ ((c.length : Int) - t ≤ 254 ∧ 254 < (c.length : Int) - f ∧ (nearC c t f).length = c.length + 1) ∨
    (254 < (c.length : Int) - t ∧ (c.length : Int) - f ≤ 253 ∧ (nearC c t f).length = c.length + 1) ∨ (254 < (c.length : Int) - t ∧ 253 < (c.length : Int) - f ∧ (nearC c t f).length = c.length + 2) := by
  unfold nearC
  rcases nearN_cases c t with ⟨h1, h2⟩ | ⟨h1, h2⟩ <;> rw [h2]
  · rcases nearN_cases c f with ⟨h3, h4⟩ | ⟨h3, h4⟩ <;> simp only [h4, List.length_cons]
    · exact .inl ⟨h1, h3, trivial⟩
    · exact .inr (.inl ⟨h1, h3, trivial⟩)
  · rcases nearN_cases (jaTo c t :: c) f with ⟨h3, h4⟩ | ⟨h3, h4⟩ <;> simp only [h4, List.length_cons] <;> rw [List.length_cons] at h3
    · exact .inr (.inr (.inl ⟨h1, by omega, trivial⟩))
    · exact .inr (.inr (.inr ⟨h1, by omega, trivial⟩))
end Go.Proofs.YtmbgcfikpndamaaDoor
