/-
  What the laws' texts use, joined.
-/
import Derived.Test.YtbekkdhlfkongaaGreatDoorProg
import Derived.WalkKit
import Derived.ProofKit
import Derived.Lib.Hide
import Derived.Laws.Rows
import Derived.Laws.ResultCell
import Derived.Laws.Entries
import Derived.Handy
import Derived.OwnWalk
import Derived.Laws.OwnMore
import Derived.Deep.Draws
import Derived.Laws.IdiomStrings
import Derived.Lib.BufferRead
import Derived.Maps.OwnSet
import Derived.Laws.BitsAllLaws
import Derived.RowKit
import Derived.Lib.QuietBelow
import Derived.Lib.OthersKept
import Derived.BigQuiet
import Derived.IntWalk
import Derived.Deep.RegionHeld3
import Derived.BigRegion
import Derived.Laws.Tables
import Derived.Deep.DeepCutAuto
import Derived.Deep.QuietTactic
import Derived.Test.YtbekkdhlfkongaaGreatDoorPk1
/-
  The map of the conditions: what conditions() makes, and what is looked up in it.
-/
namespace Go.Proofs.YtbekkdhlfkongaaGreatDoor
open Go.ChangeShapes Go.WideShapes Go.ChangeAt Go.RowKit
set_option maxRecDepth 20000

/-- The elements of the map read as themselves. -/
def fnR : Value → Option (DataW Value × List MemPlace) := fun v => some (.held v, [])
theorem keyI : Go.Maps.Keyed Tryz.prog 3 := Go.Maps.int_keyed Tryz.underlying3
def keyL (a : Int) : Lit := .int .i64 a
theorem key_lit (a : Int) : WideAt.IsKeyLit (keyL a) := by unfold keyL; exact True.intro
theorem keyOfI {a : Int} (h : -9223372036854775808 ≤ a ∧ a ≤ 9223372036854775807) : keyOf Tryz.prog 3 (.int .i64 a) = some (keyL a) := Go.Maps.keyOf_int_mk Tryz.underlying3 (WalkArith.wf_i64 h)
theorem isMap_put {D : DataW Value} (h : Maps.IsMap D) (a : Int) (v : Value) : Maps.IsMap (D.put (keyL a) (.held v)) := by
  obtain ⟨es, rfl⟩ := h
  exact ⟨_, rfl⟩
theorem has_put {D : DataW Value} (h : Maps.IsMap D) (a op : Int) (v : Value) : Maps.has (D.put (keyL a) (.held v)) (keyL op) = (decide (op = a) || Maps.has D (keyL op)) := by
  by_cases e : op = a
  · subst e
    rw [Maps.has_put_same h (key_lit _)]
    simp
  · rw [Maps.has_put_other (by unfold keyL; intro h; cases h; exact e rfl)]
    simp [e]
theorem at_put {D : DataW Value} (h : Maps.IsMap D) (a op : Int) (v : Value) (z : DataW Value) : (D.put (keyL a) (.held v)).atKey (keyL op) z = if op = a then .held v else D.atKey (keyL op) z := by
  by_cases e : op = a
  · subst e
    rw [Maps.atKey_put_same h (key_lit _)]
    simp
  · rw [Maps.atKey_put_other (by unfold keyL; intro h; cases h; exact e rfl)]
    simp [e]
def putAll : List (Int × Value) → DataW Value → DataW Value
  | [], D => D
  | p :: es, D => putAll es (D.put (keyL p.1) (.held p.2))
/-- What is looked up: the last one of a key. -/
def lastOf : List (Int × Value) → Int → Option Value → Option Value
  | [], _, o => o
  | p :: es, op, o => lastOf es op (if op = p.1 then some p.2 else o)
theorem has_all : ∀ (es : List (Int × Value)) (D : DataW Value) (op : Int) (o : Option Value), Maps.IsMap D → Maps.has D (keyL op) = o.isSome → Maps.has (putAll es D) (keyL op) = (lastOf es op o).isSome
  | [], _, _, _, _, h => h
  | p :: es, D, op, o, hm, h => by
    refine has_all es _ op _ (isMap_put hm _ _) ?_
    rw [has_put hm, h]
    by_cases e : op = p.1 <;> simp [e]
theorem at_all : ∀ (es : List (Int × Value)) (D : DataW Value) (op : Int) (o : Option Value) (z : Value), Maps.IsMap D → D.atKey (keyL op) (.held z) = .held (o.getD z) → (putAll es D).atKey (keyL op) (.held z) = .held ((lastOf es op o).getD z)
  | [], _, _, _, _, _, h => h
  | p :: es, D, op, o, z, hm, h => by
    refine at_all es _ op _ z (isMap_put hm _ _) ?_
    rw [at_put hm, h]
    by_cases e : op = p.1 <;> simp [e]

/-- The number of an operation's condition; 0: it has none. -/
def kindOf (op : Int) : Nat :=
  if op = 32 then 1 else if op = 2 ∨ op = 3 ∨ op = 96 ∨ op = 97 then 2 else if op = 52 then 3 else if op = 100 ∨ op = 116 then 4 else if op = 5 then 5
  else if op = 21 ∨ op = 37 ∨ op = 53 ∨ op = 69 ∨ op = 29 ∨ op = 45 ∨ op = 61 ∨ op = 77 then 6 else 0
def rowsM (s : Nat → Value) : List (Int × Value) :=
  [(32, s 1), (2, s 2), (3, s 2), (96, s 2), (97, s 2), (52, s 3), (100, s 4), (116, s 4), (5, s 5), (21, s 6), (37, s 6), (53, s 6), (69, s 6), (29, s 6), (45, s 6), (61, s 6), (77, s 6)]
theorem last_rows (s : Nat → Value) (op : Int) : lastOf (rowsM s) op none = if kindOf op = 0 then none else some (s (kindOf op)) := by
  unfold kindOf
  by_cases h1 : op = 32
  · subst h1; rfl
  by_cases h2 : op = 2 ∨ op = 3 ∨ op = 96 ∨ op = 97
  · rcases h2 with h2 | h2 | h2 | h2 <;> subst h2 <;> rfl
  by_cases h3 : op = 52
  · subst h3; rfl
  by_cases h4 : op = 100 ∨ op = 116
  · rcases h4 with h2 | h2 <;> subst h2 <;> rfl
  by_cases h5 : op = 5
  · subst h5; rfl
  by_cases h6 : op = 21 ∨ op = 37 ∨ op = 53 ∨ op = 69 ∨ op = 29 ∨ op = 45 ∨ op = 61 ∨ op = 77
  · rcases h6 with h2 | h2 | h2 | h2 | h2 | h2 | h2 | h2 <;> subst h2 <;> rfl
  simp only [not_or] at h2 h4 h6
  simp [h1, h2, h3, h4, h5, h6, lastOf, rowsM]
def mapD (s : Nat → Value) : DataW Value := putAll (rowsM s) (.map [])
theorem has_mapD (s : Nat → Value) (op : Int) : Maps.has (mapD s) (keyL op) = (kindOf op != 0) := by
  unfold mapD
  rw [has_all (rowsM s) (.map []) op none Maps.isMap_empty rfl, last_rows]
  by_cases h : kindOf op = 0 <;> simp [h]
theorem at_mapD (s : Nat → Value) (op : Int) (z : Value) : (mapD s).atKey (keyL op) (.held z) = .held (if kindOf op = 0 then z else s (kindOf op)) := by
  unfold mapD
  rw [at_all (rowsM s) (.map []) op none z Maps.isMap_empty rfl, last_rows]
  by_cases h : kindOf op = 0 <;> simp [h]
theorem kindOf_le (op : Int) : kindOf op ≤ 6 := by
  unfold kindOf
  repeat' split
  all_goals omega

/-- The map of the conditions, as it lies in a world. -/
def MapAt (w : World) (v : Value) : Prop := ∃ (b : Nat) (s : Nat → Value), v = .map (some b) ∧ w.ownsMap Tryz.prog 3 fnR b 17 (mapD s) ∧ ∀ c, 1 ≤ c → c ≤ 6 → CondAt w (s c) c
theorem own_map_below {w w' : World} {b n : Nat} {D : DataW Value} (h : w.ownsMap Tryz.prog 3 fnR b n D) (hb : Below w.heap.size w w') : w'.ownsMap Tryz.prog 3 fnR b n D := by
  obtain ⟨es, clock, hh, r⟩ := h
  exact ⟨es, clock, (hb.block b (lt_of_block hh)).trans hh, r⟩
theorem MapAt.below {w w' : World} {v : Value} (h : MapAt w v) (hb : Below w.heap.size w w') : MapAt w' v := by
  obtain ⟨b, s, rfl, h1, h2⟩ := h
  exact ⟨b, s, rfl, own_map_below h1 hb, fun c hc hc' => (h2 c hc hc').below hb⟩
theorem zeroC (w : World) : (zeroValue 169).run Tryz.prog w = .ok .nilFunc w := by kernel_rfl
/-- What is looked up. -/
theorem look_map {w : World} {b : Nat} {s : Nat → Value} (h : w.ownsMap Tryz.prog 3 fnR b 17 (mapD s)) (op : Int) (ho : -9223372036854775808 ≤ op ∧ op ≤ 9223372036854775807) :
    (Instr.lookup 130 (.map (some b)) (.int .i64 op) true).run Tryz.prog w = .ok (.tuple #[if kindOf op = 0 then .nilFunc else s (kindOf op), .bool (kindOf op != 0)]) w := by
  obtain ⟨v, ps, hr, hv⟩ := h.look_ok keyI Tryz.underlying130 (zeroC w) (zd := .held .nilFunc) (zp := []) rfl (keyOfI ho)
  rw [at_mapD] at hv
  rw [has_mapD] at hr
  unfold fnR at hv
  simp only [Option.some.injEq, Prod.mk.injEq, DataW.held.injEq] at hv
  rw [hr, hv.1]
end Go.Proofs.YtbekkdhlfkongaaGreatDoor

/-
  What conditions() makes: the map of the conditions.
-/
namespace Go.Proofs.YtbekkdhlfkongaaGreatDoor
open Go.ChangeShapes Go.WideShapes Go.ChangeAt Go.RowKit
set_option maxRecDepth 20000

/-- The map while it is filled. -/
def MK (w0 : World) (b n : Nat) (D : DataW Value) (w : World) : Prop := w.ownsMap Tryz.prog 3 fnR b n D ∧ Below w0.heap.size w0 w ∧ w0.heap.size ≤ b
theorem mk_new (w : World) : MK w w.heap.size 0 (.map []) (w.alloc (.map #[] 0)) :=
  ⟨World.ownsMap_made w Tryz.prog 3 fnR, ba _ (Below.refl _ _), Nat.le_refl _⟩
theorem wpList_ins (w : World) {ops : Array Oper} {rest : List Oper} {o : Oper} {a : Act} {Q : Exit → Act → World → Prop}
    (hg : o.guard = none) (m x v : Operand) (hop : o.op = Op.insert 130 m x v) {w0 : World} {b n : Nat} {D : DataW Value}
    (hm : a.eval m = .map (some b)) (h : MK w0 b n D w) (hn : n < 100) (k : Int) (hk : -9223372036854775808 ≤ k ∧ k ≤ 9223372036854775807) (hx : a.eval x = .int .i64 k) (val : Value) (hv : a.eval v = val)
    (hK : ∀ w', MK w0 b (n + 1) (D.put (keyL k) (.held val)) w' → wpList Tryz.prog ops Q rest (a.put o.dst undef) w') : wpList Tryz.prog ops Q (o :: rest) a w := by
  obtain ⟨h1, h2, h3⟩ := h
  refine wpList_insert_own w hg m x v _ hop _ _ keyI Tryz.underlying130 fnR b n D hm h1 (by unfold maxLen; omega) _ val _ hx hv (keyOfI hk) _ [] rfl ?_
  intro w' h1' hg'
  exact hK w' ⟨h1', h2.grown hg' h2.size (fun k hk => by cases hk; exact h3), h3⟩

def CondsEnd (w : World) (e : Ending) (w' : World) : Prop := ∃ v, e = .returned v ∧ MapAt w' v ∧ Below w.heap.size w w'
theorem conditions_any (w : World) : Calls Tryz.prog 77 #[] w (CondsEnd w) := by
  go_enter Tryz.func77, Tryz.ntmps77
  go_wp2_with fail
  refine (unless_any 1 _).mono ?_
  rintro e w1 ⟨v1, rfl, c1, hb1⟩
  have C1 := Lib.hid c1
  have B1 := Lib.hid hb1
  clear c1 hb1
  go_wp2_with fail
  refine (unless_any 2 _).mono ?_
  rintro e w2 ⟨v2, rfl, c2, hb2⟩
  have C2 := Lib.hid c2
  have B2 := Lib.hid (B1.out.trans (hb2.mono B1.out.size))
  have C1' := Lib.hid (C1.out.below hb2)
  clear c2 hb2 C1 B1
  go_wp2_with fail
  refine (unless_any 3 _).mono ?_
  rintro e w3 ⟨v3, rfl, c3, hb3⟩
  have C3 := Lib.hid c3
  have B3 := Lib.hid (B2.out.trans (hb3.mono B2.out.size))
  have C1 := Lib.hid (C1'.out.below hb3)
  have C2' := Lib.hid (C2.out.below hb3)
  clear c3 hb3 C1' C2 B2
  go_wp2_with fail
  refine (unless_any 4 _).mono ?_
  rintro e w4 ⟨v4, rfl, c4, hb4⟩
  have C4 := Lib.hid c4
  have B4 := Lib.hid (B3.out.trans (hb4.mono B3.out.size))
  have C1' := Lib.hid (C1.out.below hb4)
  have C2 := Lib.hid (C2'.out.below hb4)
  have C3' := Lib.hid (C3.out.below hb4)
  clear c4 hb4 C1 C2' C3 B3
  go_wp2_with fail
  refine (unless_any 5 _).mono ?_
  rintro e w5 ⟨v5, rfl, c5, hb5⟩
  have C5 := Lib.hid c5
  have B5 := Lib.hid (B4.out.trans (hb5.mono B4.out.size))
  have C1 := Lib.hid (C1'.out.below hb5)
  have C2' := Lib.hid (C2.out.below hb5)
  have C3 := Lib.hid (C3'.out.below hb5)
  have C4' := Lib.hid (C4.out.below hb5)
  clear c5 hb5 C1' C2 C3' C4 B4
  go_wp2_with fail
  refine (unless_any 6 _).mono ?_
  rintro e w6 ⟨v6, rfl, c6, hb6⟩
  have C6 := Lib.hid c6
  have B6 := Lib.hid (B5.out.trans (hb6.mono B5.out.size))
  have C1' := Lib.hid (C1.out.below hb6)
  have C2 := Lib.hid (C2'.out.below hb6)
  have C3' := Lib.hid (C3.out.below hb6)
  have C4 := Lib.hid (C4'.out.below hb6)
  have C5' := Lib.hid (C5.out.below hb6)
  clear c6 hb6 C1 C2' C3 C4' C5 B5
  have hend : ∀ w', MK w6 w6.heap.size 17 (mapD fun c => match c with | 1 => v1 | 2 => v2 | 3 => v3 | 4 => v4 | 5 => v5 | _ => v6) w' → CondsEnd w (.returned (.map (some w6.heap.size))) w' := by
    rintro w' ⟨h1, h2, h3⟩
    refine ⟨_, rfl, ⟨_, _, rfl, h1, fun c hc hc' => ?_⟩, B6.out.trans (h2.mono B6.out.size)⟩
    have h : c = 1 ∨ c = 2 ∨ c = 3 ∨ c = 4 ∨ c = 5 ∨ c = 6 := by omega
    rcases h with rfl | rfl | rfl | rfl | rfl | rfl
    · exact C1'.out.below h2
    · exact C2.out.below h2
    · exact C3'.out.below h2
    · exact C4.out.below h2
    · exact C5'.out.below h2
    · exact C6.out.below h2
  have hmm := @run_makeMap Tryz.prog
  have M0 := mk_new w6
  go_wp2_with (first | (refine wpList_ins _ rfl _ _ _ rfl rfl (by assumption) (by omega) _ (by omega) rfl _ rfl ?_; intro w' h') | go_in)
  go_ret
  exact hend _ (by assumption)
end Go.Proofs.YtbekkdhlfkongaaGreatDoor

/-
  The error of one instruction, by the condition of its operation; and what check.fault answers.
-/
namespace Go.Proofs.YtbekkdhlfkongaaGreatDoor
open Go.ChangeShapes Go.WideShapes Go.ChangeAt Go.RowKit
set_option maxRecDepth 20000

theorem branch_rows : ∀ i, i < 39 → isBranch (Ip.refOps.getD i 0) = decide (kindOf (Ip.refOps.getD i 0) = 6) := by decide
theorem kind6_some {op : Int} (h : kindOf op = 6) : (Ip.byOp op).isSome = true := by
  have h' : op = 21 ∨ op = 37 ∨ op = 53 ∨ op = 69 ∨ op = 29 ∨ op = 45 ∨ op = 61 ∨ op = 77 := by
    unfold kindOf at h
    repeat' split at h
    all_goals first | assumption | (exact absurd h (by decide))
  rcases h' with rfl | rfl | rfl | rfl | rfl | rfl | rfl | rfl <;> decide
theorem branch_kind (op : Int) : isBranch op = decide (kindOf op = 6) := by
  rcases Ip.plc_cases op with ⟨i, hi, _, rfl, _, _⟩ | ⟨_, hb⟩
  · exact branch_rows i hi
  · unfold isBranch
    rw [hb]
    cases h : decide (kindOf op = 6)
    · rfl
    · have := kind6_some (of_decide_eq_true h)
      rw [hb] at this
      cases this
theorem tmod4 {k : Int} (hk : 0 ≤ k) : (k.tmod 4 == 0 && decide (k < 64)) = !(k % 4 != 0 || decide (60 < k)) := by
  rw [Int.tmod_eq_emod_of_nonneg hk]
  by_cases h : k % 4 = 0
  · by_cases h2 : k < 64
    · have : ¬ 60 < k := by omega
      simp [h, h2, this]
    · have : 60 < k := by omega
      simp [h, h2, this]
  · have e1 : (k % 4 == 0) = false := by simpa using h
    have e2 : (k % 4 != 0) = true := by simpa using h
    rw [e1, e2]
    rfl
theorem one_kind (x : X4) (n : Int) (hk : 0 ≤ x.k) : oneE x n = if x.right = false then 1 else if kindOf x.op = 0 then 0 else if holdsB (kindOf x.op) x.jt x.jf x.k n = true then 0 else errB (kindOf x.op) := by
  unfold oneE
  cases hr : x.right
  · rfl
  simp only [Bool.not_true, Bool.false_eq_true, if_false, Bool.true_eq_false]
  rw [branch_kind]
  obtain ⟨op, jt, jf, k⟩ := x
  simp only at hk ⊢
  clear hr
  by_cases h1 : op = 32
  · subst h1
    rw [show kindOf 32 = 1 from rfl]
    show (if (true && (k % 4 != 0 || decide (60 < k))) = true then (6 : Int) else _) = if (1 : Nat) = 0 then 0 else if (k.tmod 4 == 0 && decide (k < 64)) = true then 0 else 6
    rw [tmod4 hk]
    cases (k % 4 != 0 || decide (60 < k)) <;> simp
  by_cases h2 : op = 2 ∨ op = 3 ∨ op = 96 ∨ op = 97
  · have h : ∀ o, kindOf o = 2 → kindOf op = 2 := fun o h => by unfold kindOf; simp [h1, h2]
    rw [h 2 rfl]
    have e : (op == 2 || op == 3 || op == 96 || op == 97) = true := by rcases h2 with h | h | h | h <;> subst h <;> rfl
    rw [e]
    have e' : (op == 32) = false := by simpa using h1
    have e3 : (op == 52) = false := by rcases h2 with h | h | h | h <;> subst h <;> rfl
    have e4 : (op == 100 || op == 116) = false := by rcases h2 with h | h | h | h <;> subst h <;> rfl
    have e5 : (op == 5) = false := by rcases h2 with h | h | h | h <;> subst h <;> rfl
    rw [e', e3, e4, e5]
    show (if _ then _ else if (true && decide (15 < k)) = true then (7 : Int) else _) = if (2 : Nat) = 0 then 0 else if decide (k < 16) = true then 0 else 7
    by_cases h : k < 16
    · have : ¬ 15 < k := by omega
      simp [h, this]
    · have : 15 < k := by omega
      simp [h, this]
  by_cases h3 : op = 52
  · subst h3
    rw [show kindOf 52 = 3 from rfl]
    show (if (true && k == 0) = true then (8 : Int) else _) = if (3 : Nat) = 0 then 0 else if (k != 0) = true then 0 else 8
    cases h : (k == 0) <;> simp_all
  by_cases h4 : op = 100 ∨ op = 116
  · have h : kindOf op = 4 := by unfold kindOf; rcases h4 with h | h <;> subst h <;> rfl
    rw [h]
    have e : (op == 100 || op == 116) = true := by rcases h4 with h | h <;> subst h <;> rfl
    rw [e]
    have e' : (op == 32) = false := by simpa using h1
    have e2 : (op == 2 || op == 3 || op == 96 || op == 97) = false := by rcases h4 with h | h <;> subst h <;> rfl
    have e3 : (op == 52) = false := by simpa using h3
    have e5 : (op == 5) = false := by rcases h4 with h | h <;> subst h <;> rfl
    rw [e', e2, e3, e5]
    show (if _ then _ else if _ then _ else if _ then _ else if (true && decide (31 < k)) = true then (1 : Int) else _) = if (4 : Nat) = 0 then 0 else if decide (k < 32) = true then 0 else 1
    by_cases h : k < 32
    · have : ¬ 31 < k := by omega
      simp [h, this]
    · have : 31 < k := by omega
      simp [h, this]
  have e' : (op == 32) = false := by simpa using h1
  have e2 : (op == 2 || op == 3 || op == 96 || op == 97) = false := by simpa [and_assoc] using h2
  have e3 : (op == 52) = false := by simpa using h3
  have e4 : (op == 100 || op == 116) = false := by simpa using h4
  rw [e', e2, e3, e4]
  simp only [Bool.false_and, Bool.false_eq_true, if_false]
  by_cases h5 : op = 5
  · subst h5
    rw [show kindOf 5 = 5 from rfl]
    show (if (true && decide (n ≤ k)) = true then (4 : Int) else _) = if (5 : Nat) = 0 then 0 else if decide (k < n) = true then 0 else 4
    by_cases h : k < n
    · have : ¬ n ≤ k := by omega
      simp [h, this]
    · have : n ≤ k := by omega
      simp [h, this]
  have e5 : (op == 5) = false := by simpa using h5
  rw [e5]
  simp only [Bool.false_and, Bool.false_eq_true, if_false]
  by_cases h6 : kindOf op = 6
  · rw [h6]
    show (if (true && (decide (n ≤ jt) || decide (n ≤ jf))) = true then (4 : Int) else 0) = if (6 : Nat) = 0 then 0 else if (decide (jt < n) && decide (jf < n)) = true then 0 else 4
    by_cases a : jt < n <;> by_cases b : jf < n <;> simp [a, b, Int.not_le.2, Int.not_lt.1] <;> omega
  · have h0 : kindOf op = 0 := by
      unfold kindOf at h6 ⊢
      rw [if_neg h1, if_neg h2, if_neg h3, if_neg h4, if_neg h5] at h6 ⊢
      by_cases h : op = 21 ∨ op = 37 ∨ op = 53 ∨ op = 69 ∨ op = 29 ∨ op = 45 ∨ op = 61 ∨ op = 77
      · rw [if_pos h] at h6; exact absurd rfl h6
      · rw [if_neg h]
    rw [h0]
    rfl

theorem right_op {op jt jf k : Int} (h : right op jt jf k = true) : -9223372036854775808 ≤ op ∧ op ≤ 9223372036854775807 := by
  unfold right at h
  cases hb : Ip.byOp op with
  | none => rw [hb] at h; cases h
  | some r =>
    obtain ⟨hr, rfl⟩ := Ip.byOp_op hb
    have := Ip.byOp_bd r.op
    rw [hb] at this
    simp only [Option.getD_some] at this
    omega
/-- What check.fault answers. -/
theorem kfault_any (x : X4) (hx : x.ok) (n : Int) (hn : 0 ≤ n) (hn' : n ≤ 9223372036854775807) (v : Value) (w : World) (hM : MapAt w v) (ht : OTab w) :
    Calls Tryz.prog 78 #[x.val, .int .i64 n, v] w fun e w' => e = .returned (.int .i64 (oneE x n)) ∧ Below w.heap.size w w' := by
  have HE := Lib.hid (one_kind x n hx.1)
  generalize oneE x n = ev at HE ⊢
  obtain ⟨op, jt, jf, k⟩ := x
  obtain ⟨hk, hk'⟩ := hx
  simp only at hk hk' HE
  have hb := ba (insB op jt jf k) (Below.refl w.heap.size w)
  have hH : (w.alloc (insB op jt jf k)).heap[w.heap.size]? = some (insB op jt jf k) := heap_alloc_new _ _
  have ht1 := ht.alloc (insB op jt jf k)
  have HM := Lib.hid (hM.below hb)
  clear hM
  go_enter Tryz.func78, Tryz.ntmps78
  go_wp2_with fail
  refine (right_any op jt jf k _ ht1).mono ?_
  rintro e w1 ⟨rfl, hB⟩
  have hH1 : w1.heap[w.heap.size]? = some (insB op jt jf k) := (hB.block _ (lt_of_block hH)).trans hH
  have hsz := lt_of_block hH1
  have HM1 := Lib.hid (HM.out.below hB)
  have HB1 := Lib.hid (hb.trans (hB.mono hb.size))
  change Hid (ev = if right op jt jf k = false then 1 else if kindOf op = 0 then 0 else if holdsB (kindOf op) jt jf k n = true then 0 else errB (kindOf op)) at HE
  have HX := Lib.hid hH1
  clear hH1 hB hb hH ht1 HM
  cases hr : right op jt jf k
  · have HF := Lib.hid (HE.out.trans (by rw [hr]; rfl) : ev = 1)
    clear hr
    go_wp2_with fail
    go_ret
    exact ⟨retI HF.out, HB1.out⟩
  · have HR := Lib.hid hr
    have hop : -9223372036854775808 ≤ op ∧ op ≤ 9223372036854775807 := right_op hr
    have HE' := Lib.hid (HE.out.trans (by rw [hr]; rfl) : ev = if kindOf op = 0 then 0 else if holdsB (kindOf op) jt jf k n = true then 0 else errB (kindOf op))
    clear hr HE
    obtain ⟨mb, s, rfl, hm, hs⟩ := HM1.out
    have hl := look_map hm op hop
    have c0 : w1.cell? ⟨w.heap.size, 0, none⟩ = some (.int .i64 op) := cell_in HX.out 0
    by_cases h0 : kindOf op = 0
    · rw [h0] at hl
      have HF := Lib.hid (HE'.out.trans (by rw [h0]; rfl) : ev = 0)
      simp only [if_true, bne_self_eq_false] at hl
      have HS := Lib.hid hs
      have HO := Lib.hid hop
      have HZ := Lib.hid h0
      clear hm hs hop h0
      go_wp2_with fail
      go_ret
      exact ⟨retI HF.out, HB1.out⟩
    · obtain ⟨a, b, hv, ca, cb, la, lb⟩ := hs _ (by omega) (kindOf_le op)
      have hne : (kindOf op != 0) = true := by simpa using h0
      rw [if_neg h0, hv, hne] at hl
      have HF := Lib.hid (HE'.out.trans (by rw [if_neg h0]) : ev = if holdsB (kindOf op) jt jf k n = true then 0 else errB (kindOf op))
      have c1 : w1.cell? ⟨w.heap.size, 1, none⟩ = some (.int .i64 jt) := cell_in HX.out 1
      have c2 : w1.cell? ⟨w.heap.size, 2, none⟩ = some (.int .i64 jf) := cell_in HX.out 2
      have c3 : w1.cell? ⟨w.heap.size, 3, none⟩ = some (.int .u32 k) := cell_in HX.out 3
      have HK := Lib.hid (unless1_any (kindOf op) op jt jf k n hk hk' hn hn' w1 a b ca cb la lb)
      generalize (if holdsB (kindOf op) jt jf k n = true then 0 else errB (kindOf op)) = q at HK HF
      clear hm hs hop h0 hv ca cb la lb hne HE' HM1
      go_wp2_with fail
      refine HK.out.mono ?_
      rintro e w2 ⟨rfl, hB2⟩
      have HB2 := Lib.hid (HB1.out.trans (hB2.mono HB1.out.size))
      clear hB2 c0 c1 c2 c3 hl
      go_wp2_with fail
      go_ret
      exact ⟨retI HF.out, HB2.out⟩
end Go.Proofs.YtbekkdhlfkongaaGreatDoor
/-
  What check.Check, and Sound, answer, for any filter that lies in a world.
-/
namespace Go.Proofs.YtbekkdhlfkongaaGreatDoor
open Go.ChangeShapes Go.WideShapes Go.ChangeAt Go.RowKit
set_option maxRecDepth 20000

theorem getD_at {l : List X4} {n : Nat} (h : n < l.length) : l.getD n zeroX = l[n] := by
  rw [List.getD_eq_getElem?_getD, List.getElem?_eq_getElem h]
  rfl
theorem badAt_at {l : List X4} {n : Nat} (h : n < l.length) : badAt l n = oneE l[n] ((l.length : Int) - 1 - n) := by
  unfold badAt
  rw [getD_at h]
theorem goodTo_succ {l : List X4} {n : Nat} (h : goodTo l n) (hb : badAt l n = 0) : goodTo l (n + 1) := by
  intro i hi
  by_cases e : i = n
  · rw [e]; exact hb
  · exact h i (by omega)
def CheckEnd (l : List X4) (w : World) (e : Ending) (w' : World) : Prop := ∃ p er, CheckIs l p er ∧ e = .returned (.tuple #[.int .i64 p, .int .i64 er]) ∧ Below w.heap.size w w'
theorem checkEnd {l : List X4} {w w' : World} {p er : Int} (h : CheckIs l p er) (hb : Below w.heap.size w w') : CheckEnd l w (.returned (.tuple #[.int .i64 p, .int .i64 er])) w' := ⟨p, er, h, rfl, hb⟩

set_option maxHeartbeats 1000000 in
theorem check_any (v : Value) (l : List X4) (w : World) (hF : FAt w v l) (hok : ∀ x ∈ l, x.ok) (ht : OTab w) :
    Calls Tryz.prog 44 #[v] w (CheckEnd l w) := by
  obtain ⟨ao, cap, rfl, hF⟩ := hF
  by_cases h0 : l.length = 0
  · have HC : Hid (CheckIs l 0 5) := Lib.hid (.inl ⟨h0, rfl, rfl⟩)
    go_enter Tryz.func44, Tryz.ntmps44
    go_wp2_with fail
    go_ret2
    exact checkEnd HC.out (Below.refl _ _)
  by_cases hbig : 4096 < l.length
  · have HC : Hid (CheckIs l 0 3) := Lib.hid (.inr (.inl ⟨hbig, rfl, rfl⟩))
    go_enter Tryz.func44, Tryz.ntmps44
    go_wp2_with fail
    go_ret2
    exact checkEnd HC.out (Below.refl _ _)
  · have HF := Lib.hid hF
    have HO := Lib.hid hok
    have hlen : l.length ≤ 4096 := by omega
    have hpos : 0 < l.length := by omega
    clear hF hok
    go_enter Tryz.func44, Tryz.ntmps44
    go_wp2_with fail
    refine (conditions_any _).mono ?_
    rintro e w1 ⟨vm, rfl, hM, hB0⟩
    have HM := Lib.hid hM
    have HB0 := Lib.hid hB0
    have ht1 := ht.below hB0
    have HT := Lib.hid ht1
    clear hM hB0 ht1 ht
    go_wp2_with fail
    go_loopw [21] (fun i wr => ∃ n : Nat, n ≤ l.length ∧ i = .int .i64 n ∧ Below w1.heap.size w1 wr ∧ goodTo l n) (fun i _ => l.length - (intOf i).toNat)
    case atStart => exact ⟨0, by omega, rfl, Below.refl _ _, fun i hi => by omega⟩
    case round =>
      obtain ⟨n, hn, rfl, hB, hall⟩ := hrel
      have HB := Lib.hid hB
      have HA := Lib.hid hall
      by_cases hlt : n < l.length
      · rcases HF.out with h0 | ⟨b, off, rfl, hb, hc⟩
        · rw [h0] at hlt; simp at hlt
        have hb' : b < w1.heap.size := Nat.lt_of_lt_of_le hb HB0.out.size
        obtain ⟨c0, c1, c2, c3⟩ := hc n hlt
        have d0 := (hB.cell (p := ⟨b, _, none⟩) hb').trans ((HB0.out.cell (p := ⟨b, _, none⟩) hb).trans c0)
        have d1 := (hB.cell (p := ⟨b, _, none⟩) hb').trans ((HB0.out.cell (p := ⟨b, _, none⟩) hb).trans c1)
        have d2 := (hB.cell (p := ⟨b, _, none⟩) hb').trans ((HB0.out.cell (p := ⟨b, _, none⟩) hb).trans c2)
        have d3 := (hB.cell (p := ⟨b, _, none⟩) hb').trans ((HB0.out.cell (p := ⟨b, _, none⟩) hb).trans c3)
        have HO1 := Lib.hid (HO.out _ (List.getElem_mem hlt))
        have HE := Lib.hid (badAt_at hlt)
        clear hc c0 c1 c2 c3 hB hall HF
        go_wp2_with fail
        have hB2 := ba (insB l[n].op l[n].jt l[n].jf l[n].k) HB.out
        refine (kfault_any l[n] HO1.out ((l.length : Int) - 1 - n) (by omega) (by omega) vm _ (HM.out.below hB2) (HT.out.below hB2)).mono ?_
        rintro e w2 ⟨rfl, hb1⟩
        have HB1 := Lib.hid (hB2.trans (hb1.mono hB2.size))
        clear hB2 hb1 d0 d1 d2 d3
        rw [← HE.out]
        have HW := Lib.hid (HB0.out.trans (HB1.out.mono HB0.out.size))
        cases hz : (badAt l n == 0)
        · have HC : Hid (CheckIs l n (badAt l n)) := Lib.hid (.inr (.inr (.inl ⟨hpos, hlen, n, hlt, HA.out, by simpa using hz, rfl, rfl⟩)))
          go_wp2_with fail
          go_ret2
          exact checkEnd HC.out HW.out
        · have HN := Lib.hid (goodTo_succ HA.out (by simpa using hz))
          go_wp2_with fail
          go_roundw
          case rel => exact ⟨n + 1, by omega, by go_num, HB1.out, HN.out⟩
          case measure => simp [intOf]; omega
      · have hnl : n = l.length := by omega
        subst hnl
        have HW := Lib.hid (HB0.out.trans (HB.out.mono HB0.out.size))
        rcases HF.out with h0 | ⟨b, off, rfl, hb, hc⟩
        · rw [h0] at hpos; simp at hpos
        have hb' : b < w1.heap.size := Nat.lt_of_lt_of_le hb HB0.out.size
        have hll : l.length - 1 < l.length := by omega
        have HL := Lib.hid (getD_at hll)
        obtain ⟨c0, c1, c2, c3⟩ := hc (l.length - 1) hll
        have d0 := (hB.cell (p := ⟨b, _, none⟩) hb').trans ((HB0.out.cell (p := ⟨b, _, none⟩) hb).trans c0)
        have d1 := (hB.cell (p := ⟨b, _, none⟩) hb').trans ((HB0.out.cell (p := ⟨b, _, none⟩) hb).trans c1)
        have d2 := (hB.cell (p := ⟨b, _, none⟩) hb').trans ((HB0.out.cell (p := ⟨b, _, none⟩) hb).trans c2)
        have d3 := (hB.cell (p := ⟨b, _, none⟩) hb').trans ((HB0.out.cell (p := ⟨b, _, none⟩) hb).trans c3)
        generalize l[l.length - 1] = x at d0 d1 d2 d3 HL
        clear hc c0 c1 c2 c3 hB hall HF
        go_wp2_with fail
        refine (ends_any x.op x.jt x.jf x.k _).mono ?_
        rintro e w2 ⟨rfl, hb1⟩
        have HW2 := Lib.hid (HW.out.trans (hb1.mono HW.out.size))
        have HLX : Hid (endsE (lastX l) = (x.op == 6 || x.op == 22)) := Lib.hid (by unfold lastX; rw [HL.out]; rfl)
        clear hb1 d0 d1 d2 d3
        cases he : (x.op == 6 || x.op == 22)
        · have HC : Hid (CheckIs l ((l.length : Int) - 1) 5) := Lib.hid (.inr (.inr (.inr (.inl ⟨hpos, hlen, HA.out, HLX.out.trans he, rfl, rfl⟩))))
          clear he
          go_wp2_with fail
          go_ret2
          exact checkEnd HC.out HW2.out
        · have HC : Hid (CheckIs l 0 0) := Lib.hid (.inr (.inr (.inr (.inr ⟨hpos, hlen, HA.out, HLX.out.trans he, rfl, rfl⟩))))
          clear he
          go_wp2_with fail
          go_ret2
          exact checkEnd HC.out HW2.out

/-- Whether a filter is sound. -/
def soundB (l : List X4) : Bool := decide (0 < l.length) && decide (l.length ≤ 4096) && ((List.range l.length).all fun i => badAt l i == 0) && endsE (lastX l)
theorem soundB_iff {l : List X4} : soundB l = true ↔ SoundL l := by
  unfold soundB SoundL goodTo
  simp only [Bool.and_eq_true, decide_eq_true_eq, List.all_eq_true, List.mem_range, beq_iff_eq, and_assoc]
theorem sound_err {l : List X4} {p e : Int} (h : CheckIs l p e) : (e == 0) = soundB l := by
  cases hs : soundB l
  · have : ¬ SoundL l := fun h' => by rw [soundB_iff.2 h'] at hs; cases hs
    have : ¬ e = 0 := fun h' => this ((sound_iff h).1 h')
    simpa using this
  · have := (sound_iff h).2 (soundB_iff.1 hs)
    simpa using this
theorem sound_any (v : Value) (l : List X4) (w : World) (hF : FAt w v l) (hok : ∀ x ∈ l, x.ok) (ht : OTab w) :
    Calls Tryz.prog 19 #[v] w fun e w' => e = .returned (.bool (soundB l)) ∧ Below w.heap.size w w' := by
  have HF := Lib.hid hF
  have HO := Lib.hid hok
  have HT := Lib.hid ht
  clear hF hok ht
  go_enter Tryz.func19, Tryz.ntmps19
  go_wp2_with fail
  refine (check_any v l w HF.out HO.out HT.out).mono ?_
  rintro e w1 ⟨p, er, hc, rfl, hb1⟩
  have HB1 := Lib.hid hb1
  have HE := Lib.hid (sound_err hc)
  clear hb1 hc
  go_wp2_with fail
  go_ret
  exact ⟨ret1 HE.out, HB1.out⟩
end Go.Proofs.YtbekkdhlfkongaaGreatDoor

/-
  Where a run may go, plainly; integers that lie in a world.
-/
namespace Go.Proofs.YtbekkdhlfkongaaGreatDoor
open Go.ChangeShapes Go.WideShapes Go.ChangeAt Go.RowKit
set_option maxRecDepth 20000

/-- Integers that lie in a world. -/
def IAt (w : World) (v : Value) (l : List Int) : Prop :=
  ∃ ao cap, v = .slice ao l.length cap ∧ (l = [] ∨ ∃ b off, ao = some ⟨b, off, none⟩ ∧ b < w.heap.size ∧ ∀ i (h : i < l.length), w.cell? ⟨b, off + i, none⟩ = some (.int .i64 l[i]))
theorem IAt.nil (w : World) : IAt w (.slice none 0 0) [] := ⟨none, 0, rfl, .inl rfl⟩
theorem IAt.below {w w' : World} {v : Value} {l : List Int} (h : IAt w v l) (hb : Below w.heap.size w w') : IAt w' v l := by
  obtain ⟨ao, cap, rfl, h⟩ := h
  refine ⟨ao, cap, rfl, h.imp id ?_⟩
  rintro ⟨b, off, rfl, hl, hc⟩
  exact ⟨b, off, rfl, Nat.lt_of_lt_of_le hl hb.size, fun i hi => (hb.cell (p := ⟨b, _, none⟩) hl).trans (hc i hi)⟩
theorem IAt.shape {w : World} {v : Value} {l : List Int} (h : IAt w v l) : ∃ ao cap, v = .slice ao l.length cap := by
  obtain ⟨ao, cap, rfl, _⟩ := h
  exact ⟨ao, cap, rfl⟩
theorem IAt.one (w : World) (a : Int) (t : TypeId) (cap : Nat) : IAt (w.alloc (.cells #[.int .i64 a] t)) (.slice (some ⟨w.heap.size, 0, none⟩) 1 cap) [a] :=
  ⟨_, _, rfl, .inr ⟨w.heap.size, 0, rfl, by rw [size_alloc]; omega, fun i hi => by
    have h0 : i = 0 := by simpa using hi
    subst h0
    rw [cell_in (heap_alloc_new w (.cells #[.int .i64 a] t)) (0 + 0)]
    rfl⟩⟩
abbrev icells (l : List Int) : List Value := l.map fun a => Value.int .i64 a
theorem IAt.own {w : World} {base : Nat} {e : TypeId} {v : Value} {n : Nat} {l : List Int} (h : w.ownsRow base e 1 v n (icells l)) (hn : n = l.length) : IAt w v l := by
  subst hn
  rcases h.2 with ⟨rfl, h0⟩ | ⟨g, cap, cur, rfl, _, hg, hc, hm, _, ht⟩
  · obtain rfl := List.length_eq_zero_iff.1 h0
    exact IAt.nil w
  · refine ⟨_, _, rfl, .inr ⟨g, 0, rfl, lt_of_block hg, fun i hi => ?_⟩⟩
    rw [Nat.zero_add, cell_in hg i, ← Array.getElem?_toList]
    have hu : (icells l)[i]? = some (.int .i64 l[i]) := by simp [hi]
    rw [← ht, List.getElem?_take, if_pos (by omega)] at hu
    exact hu

/-- Where a run may go from a place that has this instruction. -/
def nextX (x : X4) (p : Int) : List Int :=
  if endsE x then [] else if x.op == 5 then [p + 1 + x.k] else if isBranch x.op then (if x.jt == x.jf then [p + 1 + x.jt] else [min (p + 1 + x.jt) (p + 1 + x.jf), max (p + 1 + x.jt) (p + 1 + x.jf)]) else [p + 1]
theorem right_jumps {x : X4} (h : x.right = true) : 0 ≤ x.jt ∧ 0 ≤ x.jf ∧ x.jt ≤ 255 ∧ x.jf ≤ 255 := by
  unfold X4.right right Ip.fits Ip.isJ at h
  simp only [Bool.and_eq_true] at h
  have h2 := h.2.2
  split at h2
  · simp only [Bool.and_eq_true, decide_eq_true_eq] at h2
    omega
  · simp only [Bool.and_eq_true, beq_iff_eq] at h2
    omega
/-- Where a run may go is behind the place, and within. -/
theorem next_in {l : List X4} {i : Nat} (hs : SoundL l) (hok : ∀ x ∈ l, x.ok) (hi : i < l.length) : ∀ q ∈ nextX l[i] i, (i : Int) < q ∧ q < l.length := by
  obtain ⟨h0, _, hg, he⟩ := hs
  have hb := hg i hi
  rw [badAt_at hi] at hb
  have hr := one_right hb
  obtain ⟨j0, j1, j2, j3⟩ := right_jumps hr
  have hk := (hok _ (List.getElem_mem hi)).1
  rw [one_kind _ _ hk, hr] at hb
  simp only [Bool.true_eq_false, if_false] at hb
  intro q hq
  unfold nextX at hq
  cases hE : endsE l[i]
  · rw [hE] at hq
    have hlast : i + 1 < l.length := by
      rcases Nat.lt_or_ge (i + 1) l.length with h | h
      · exact h
      · have e : i = l.length - 1 := by omega
        subst e
        unfold lastX at he
        rw [getD_at hi, hE] at he
        cases he
    simp only [Bool.false_eq_true, if_false] at hq
    cases h5 : (l[i].op == 5)
    · rw [h5] at hq
      simp only [Bool.false_eq_true, if_false] at hq
      cases hB : isBranch l[i].op
      · rw [hB] at hq
        simp only [Bool.false_eq_true, if_false, List.mem_singleton] at hq
        omega
      · rw [hB] at hq
        have h6 : kindOf l[i].op = 6 := by rw [branch_kind] at hB; simpa using hB
        rw [h6] at hb
        have hb : (if (decide (l[i].jt < (l.length : Int) - 1 - i) && decide (l[i].jf < (l.length : Int) - 1 - i)) = true then (0 : Int) else 4) = 0 := hb
        have hc : l[i].jt < (l.length : Int) - 1 - i ∧ l[i].jf < (l.length : Int) - 1 - i := by
          by_cases h : (decide (l[i].jt < (l.length : Int) - 1 - i) && decide (l[i].jf < (l.length : Int) - 1 - i)) = true
          · simpa using h
          · rw [if_neg h] at hb; cases hb
        simp only [if_true] at hq
        cases hJ : (l[i].jt == l[i].jf)
        · rw [hJ] at hq
          simp only [Bool.false_eq_true, if_false, List.mem_cons, List.not_mem_nil, or_false] at hq
          omega
        · rw [hJ] at hq
          simp only [if_true, List.mem_singleton] at hq
          omega
    · rw [h5] at hq
      simp only [if_true, List.mem_singleton] at hq
      have e5 : l[i].op = 5 := by simpa using h5
      rw [e5] at hb
      have hb : (if decide (l[i].k < (l.length : Int) - 1 - i) = true then (0 : Int) else 4) = 0 := hb
      have hc : l[i].k < (l.length : Int) - 1 - i := by
        by_cases h : decide (l[i].k < (l.length : Int) - 1 - i) = true
        · simpa using h
        · rw [if_neg h] at hb; cases hb
      omega
  · rw [hE] at hq
    simp at hq
end Go.Proofs.YtbekkdhlfkongaaGreatDoor
/-
  Records of system calls, plainly: their words, their bytes, and both ways between them.
-/
namespace Go.Proofs.YtbekkdhlfkongaaGreatDoor
open Go.RowKit

/-- A record. -/
structure Rec where
  nr : Nat
  arch : Nat
  ip : Nat
  a0 : Nat
  a1 : Nat
  a2 : Nat
  a3 : Nat
  a4 : Nat
  a5 : Nat
deriving DecidableEq
/-- Its numbers fit. -/
def Rec.ok (d : Rec) : Prop := d.nr < 4294967296 ∧ d.arch < 4294967296 ∧ d.ip < 18446744073709551616 ∧ d.a0 < 18446744073709551616 ∧ d.a1 < 18446744073709551616 ∧ d.a2 < 18446744073709551616 ∧ d.a3 < 18446744073709551616 ∧ d.a4 < 18446744073709551616 ∧ d.a5 < 18446744073709551616
abbrev Rec.cells (d : Rec) : Array Value := #[.int .u32 d.nr, .int .u32 d.arch, .int .u64 d.ip, .int .u64 d.a0, .int .u64 d.a1, .int .u64 d.a2, .int .u64 d.a3, .int .u64 d.a4, .int .u64 d.a5]
abbrev Rec.val (d : Rec) : Value := .agg d.cells
/-- The sixteen words of a record, and the record of sixteen words. -/
def wordsD (d : Rec) : List Nat := [d.nr, d.arch, d.ip % 4294967296, d.ip / 4294967296, d.a0 % 4294967296, d.a0 / 4294967296, d.a1 % 4294967296, d.a1 / 4294967296, d.a2 % 4294967296, d.a2 / 4294967296, d.a3 % 4294967296, d.a3 / 4294967296, d.a4 % 4294967296, d.a4 / 4294967296, d.a5 % 4294967296, d.a5 / 4294967296]
theorem words_len (d : Rec) : (wordsD d).length = 16 := rfl
theorem words_lt {d : Rec} (h : d.ok) : ∀ x ∈ wordsD d, x < 4294967296 := by
  obtain ⟨nr, arch, ip, a0, a1, a2, a3, a4, a5⟩ := d
  obtain ⟨h0, h1, h2, h3, h4, h5, h6, h7, h8⟩ := h
  simp only at h0 h1 h2 h3 h4 h5 h6 h7 h8
  intro x hx
  simp only [wordsD, List.mem_cons, List.not_mem_nil, or_false] at hx
  omega
theorem list16 {α : Type} {l : List α} (h : l.length = 16) : ∃ x0 x1 x2 x3 x4 x5 x6 x7 x8 x9 x10 x11 x12 x13 x14 x15, l = [x0, x1, x2, x3, x4, x5, x6, x7, x8, x9, x10, x11, x12, x13, x14, x15] := by
  match l, h with
  | [x0, x1, x2, x3, x4, x5, x6, x7, x8, x9, x10, x11, x12, x13, x14, x15], _ => exact ⟨x0, x1, x2, x3, x4, x5, x6, x7, x8, x9, x10, x11, x12, x13, x14, x15, rfl⟩
/-- A record's bytes, and the words of bytes. -/
def bytesD (d : Rec) : List UInt8 := (wordsD d).flatMap (lowBytes · 4)
theorem flat4_len (l : List Nat) : (l.flatMap (lowBytes · 4)).length = 4 * l.length := by
  induction l with
  | nil => rfl
  | cons x l ih => rw [List.flatMap_cons, List.length_append, lowBytes_len, ih, List.length_cons]; omega
theorem bytesD_len (d : Rec) : (bytesD d).length = 64 := flat4_len _
/-- A number of four bytes. -/
theorem num_low4 (x : Nat) (h : x < 4294967296) : numAt (lowBytes x 4) 0 4 = x := by
  have e : lowBytes x 4 = [byteAt x 0, byteAt x 1, byteAt x 2, byteAt x 3] := rfl
  rw [e]
  have c0 := byteAt_val x 0
  have c1 := byteAt_val x 1
  have c2 := byteAt_val x 2
  have c3 := byteAt_val x 3
  simp only [Nat.mul_zero, Nat.pow_zero, Nat.div_one, Nat.mul_one, Nat.reduceMul, Nat.reducePow] at c0 c1 c2 c3
  simp only [numAt, List.getD_eq_getElem?_getD, List.getElem?_cons_succ, List.getElem?_cons_zero, Option.getD_some, Nat.zero_add, Nat.reduceMul, Nat.mul_zero, Nat.pow_zero, Nat.mul_one, Nat.reducePow]
  omega
/-- The words of numbers' bytes. -/
theorem num_flat : ∀ (l : List Nat) (i : Nat), (∀ x ∈ l, x < 4294967296) → (h : i < l.length) → numAt (l.flatMap (lowBytes · 4)) (4 * i) 4 = l[i]
  | x :: l, 0, hl, _ => by
    rw [List.flatMap_cons, Nat.mul_zero, numAt_behind _ _ _ _ (by rw [lowBytes_len]; omega), num_low4 x (hl x List.mem_cons_self)]
    rfl
  | x :: l, i + 1, hl, h => by
    rw [List.flatMap_cons, show 4 * (i + 1) = (lowBytes x 4).length + 4 * i by rw [lowBytes_len]; omega, numAt_front]
    exact num_flat l i (fun y hy => hl y (List.mem_cons_of_mem _ hy)) (by simpa using h)
/-- Is there a word at a place? The word, and the record with another one. -/
def hasW (at_ : Nat) : Bool := at_ % 4 == 0 && decide (at_ < 64)
def wordAtD (d : Rec) (at_ : Nat) : Nat := if hasW at_ then (wordsD d).getD (at_ / 4) 0 else 0
end Go.Proofs.YtbekkdhlfkongaaGreatDoor

/-
  Package data's small functions: split, join, begins, argByte, Low, High; and the document's Low.
-/
namespace Go.Proofs.YtbekkdhlfkongaaGreatDoor
open Go.ChangeShapes Go.WideShapes Go.ChangeAt Go.RowKit
set_option maxRecDepth 20000

theorem retU32 {a b : Int} (h : a = b) : Ending.returned (.int .u32 a) = .returned (.int .u32 b) := by rw [h]
theorem split_any (n : Nat) (w : World) (hn : n < 18446744073709551616) :
    Calls Tryz.prog 139 #[.int .u64 n] w fun e w' => e = .returned (.tuple #[.int .u32 ((n % 4294967296 : Nat) : Int), .int .u32 ((n / 4294967296 : Nat) : Int)]) ∧ w = w' := by
  go_enter Tryz.func139, Tryz.ntmps139
  go_wp2
  go_ret2
  exact ⟨rfl, rfl⟩
theorem begins_any (n : Nat) (w : World) :
    Calls Tryz.prog 105 #[.int .u32 n] w fun e w' => e = .returned (.bool (hasW n)) ∧ w = w' := by
  go_enter Tryz.func105, Tryz.ntmps105
  go_wp2
  all_goals go_ret
  · refine ⟨ret1 ?_, rfl⟩
    rename_i h
    have h' : n < 64 := by omega
    unfold hasW
    rw [decide_eq_true h', Bool.and_true]
    apply Bool.eq_iff_iff.2
    simp
    omega
  · refine ⟨ret1 ?_, rfl⟩
    rename_i h
    have h' : ¬ n < 64 := by omega
    unfold hasW
    rw [decide_eq_false h', Bool.and_false]
def hasA (n : Int) : Bool := decide (0 ≤ n) && decide (n < 6)
def argAt (n p : Int) : Int := if hasA n then 4 * (4 + 2 * n + p) else 64
theorem argAt_in {n p : Int} (h0 : 0 ≤ n) (h1 : n < 6) : argAt n p = 4 * (4 + 2 * n + p) := by simp [argAt, hasA, h0, h1]
theorem argAt_out {n p : Int} (h : n < 0 ∨ 6 ≤ n) : argAt n p = 64 := by
  unfold argAt hasA
  rw [if_neg]
  simp
  omega
theorem argByte_any (n p : Int) (w : World) (hp : p = 0 ∨ p = 1) :
    Calls Tryz.prog 149 #[.int .i64 n, .int .i64 p] w fun e w' => e = .returned (.int .u32 (argAt n p)) ∧ w = w' := by
  by_cases h0 : n < 0
  · go_enter Tryz.func149, Tryz.ntmps149
    go_wp2
    all_goals go_ret
    all_goals refine ⟨retU32 ?_, rfl⟩
    exact (argAt_out (.inl h0)).symm
  · by_cases h1 : n < 6
    · go_enter Tryz.func149, Tryz.ntmps149
      go_wp2
      all_goals go_ret
      all_goals refine ⟨retU32 ?_, rfl⟩
      exact (argAt_in (by omega) (by omega)).symm
    · go_enter Tryz.func149, Tryz.ntmps149
      go_wp2
      all_goals go_ret
      all_goals refine ⟨retU32 ?_, rfl⟩
      exact (argAt_out (.inr (by omega))).symm
theorem low_any (n : Int) (w : World) :
    Calls Tryz.prog 121 #[.int .i64 n] w fun e w' => e = .returned (.int .u32 (argAt n 0)) ∧ w = w' := by
  go_enter Tryz.func121, Tryz.ntmps121
  go_wp2_with fail
  refine (argByte_any n 0 _ (.inl rfl)).mono ?_
  rintro e w' ⟨rfl, rfl⟩
  go_wp2_with fail
  go_ret
  exact ⟨rfl, rfl⟩
theorem high_any (n : Int) (w : World) :
    Calls Tryz.prog 122 #[.int .i64 n] w fun e w' => e = .returned (.int .u32 (argAt n 1)) ∧ w = w' := by
  go_enter Tryz.func122, Tryz.ntmps122
  go_wp2_with fail
  refine (argByte_any n 1 _ (.inr rfl)).mono ?_
  rintro e w' ⟨rfl, rfl⟩
  go_wp2_with fail
  go_ret
  exact ⟨rfl, rfl⟩
end Go.Proofs.YtbekkdhlfkongaaGreatDoor

/-
  What data.words and data.record answer: a record's sixteen words, and the record of sixteen words.
-/
namespace Go.Proofs.YtbekkdhlfkongaaGreatDoor
open Go.ChangeShapes Go.WideShapes Go.ChangeAt Go.RowKit
set_option maxRecDepth 20000

abbrev wcells (l : List Nat) : List Value := l.map fun x : Nat => Value.int .u32 (x : Int)
abbrev wsV (l : List Nat) : Value := .agg (wcells l).toArray
/-- The words that are there behind k arguments. -/
def mixC (nr arch ip a0 a1 a2 a3 a4 a5 : Nat) : Nat → Array Value
  | 0 => #[.int .u32 (nr : Int), .int .u32 (arch : Int), .int .u32 ((ip : Int) % 4294967296), .int .u32 ((ip : Int) / 4294967296), .int .u32 0, .int .u32 0, .int .u32 0, .int .u32 0, .int .u32 0, .int .u32 0, .int .u32 0, .int .u32 0, .int .u32 0, .int .u32 0, .int .u32 0, .int .u32 0]
  | 1 => #[.int .u32 (nr : Int), .int .u32 (arch : Int), .int .u32 ((ip : Int) % 4294967296), .int .u32 ((ip : Int) / 4294967296), .int .u32 ((a0 : Int) % 4294967296), .int .u32 ((a0 : Int) / 4294967296), .int .u32 0, .int .u32 0, .int .u32 0, .int .u32 0, .int .u32 0, .int .u32 0, .int .u32 0, .int .u32 0, .int .u32 0, .int .u32 0]
  | 2 => #[.int .u32 (nr : Int), .int .u32 (arch : Int), .int .u32 ((ip : Int) % 4294967296), .int .u32 ((ip : Int) / 4294967296), .int .u32 ((a0 : Int) % 4294967296), .int .u32 ((a0 : Int) / 4294967296), .int .u32 ((a1 : Int) % 4294967296), .int .u32 ((a1 : Int) / 4294967296), .int .u32 0, .int .u32 0, .int .u32 0, .int .u32 0, .int .u32 0, .int .u32 0, .int .u32 0, .int .u32 0]
  | 3 => #[.int .u32 (nr : Int), .int .u32 (arch : Int), .int .u32 ((ip : Int) % 4294967296), .int .u32 ((ip : Int) / 4294967296), .int .u32 ((a0 : Int) % 4294967296), .int .u32 ((a0 : Int) / 4294967296), .int .u32 ((a1 : Int) % 4294967296), .int .u32 ((a1 : Int) / 4294967296), .int .u32 ((a2 : Int) % 4294967296), .int .u32 ((a2 : Int) / 4294967296), .int .u32 0, .int .u32 0, .int .u32 0, .int .u32 0, .int .u32 0, .int .u32 0]
  | 4 => #[.int .u32 (nr : Int), .int .u32 (arch : Int), .int .u32 ((ip : Int) % 4294967296), .int .u32 ((ip : Int) / 4294967296), .int .u32 ((a0 : Int) % 4294967296), .int .u32 ((a0 : Int) / 4294967296), .int .u32 ((a1 : Int) % 4294967296), .int .u32 ((a1 : Int) / 4294967296), .int .u32 ((a2 : Int) % 4294967296), .int .u32 ((a2 : Int) / 4294967296), .int .u32 ((a3 : Int) % 4294967296), .int .u32 ((a3 : Int) / 4294967296), .int .u32 0, .int .u32 0, .int .u32 0, .int .u32 0]
  | 5 => #[.int .u32 (nr : Int), .int .u32 (arch : Int), .int .u32 ((ip : Int) % 4294967296), .int .u32 ((ip : Int) / 4294967296), .int .u32 ((a0 : Int) % 4294967296), .int .u32 ((a0 : Int) / 4294967296), .int .u32 ((a1 : Int) % 4294967296), .int .u32 ((a1 : Int) / 4294967296), .int .u32 ((a2 : Int) % 4294967296), .int .u32 ((a2 : Int) / 4294967296), .int .u32 ((a3 : Int) % 4294967296), .int .u32 ((a3 : Int) / 4294967296), .int .u32 ((a4 : Int) % 4294967296), .int .u32 ((a4 : Int) / 4294967296), .int .u32 0, .int .u32 0]
  | _ => #[.int .u32 (nr : Int), .int .u32 (arch : Int), .int .u32 ((ip : Int) % 4294967296), .int .u32 ((ip : Int) / 4294967296), .int .u32 ((a0 : Int) % 4294967296), .int .u32 ((a0 : Int) / 4294967296), .int .u32 ((a1 : Int) % 4294967296), .int .u32 ((a1 : Int) / 4294967296), .int .u32 ((a2 : Int) % 4294967296), .int .u32 ((a2 : Int) / 4294967296), .int .u32 ((a3 : Int) % 4294967296), .int .u32 ((a3 : Int) / 4294967296), .int .u32 ((a4 : Int) % 4294967296), .int .u32 ((a4 : Int) / 4294967296), .int .u32 ((a5 : Int) % 4294967296), .int .u32 ((a5 : Int) / 4294967296)]
def z16 : Array Value := #[.int .u32 0, .int .u32 0, .int .u32 0, .int .u32 0, .int .u32 0, .int .u32 0, .int .u32 0, .int .u32 0, .int .u32 0, .int .u32 0, .int .u32 0, .int .u32 0, .int .u32 0, .int .u32 0, .int .u32 0, .int .u32 0]
theorem mix_all (nr arch ip a0 a1 a2 a3 a4 a5 : Nat) : mixC nr arch ip a0 a1 a2 a3 a4 a5 6 = (wcells (wordsD ⟨nr, arch, ip, a0, a1, a2, a3, a4, a5⟩)).toArray := rfl

set_option maxHeartbeats 4000000 in
theorem words_any (d : Rec) (w : World) (hd : d.ok) :
    Calls Tryz.prog 106 #[d.val] w fun e w' => e = .returned (wsV (wordsD d)) ∧ Below w.heap.size w w' := by
  obtain ⟨nr, arch, ip, a0, a1, a2, a3, a4, a5⟩ := d
  obtain ⟨h0, h1, h2, h3, h4, h5, h6, h7, h8⟩ := hd
  simp only at h0 h1 h2 h3 h4 h5 h6 h7 h8
  have HM := Lib.hid (mix_all nr arch ip a0 a1 a2 a3 a4 a5)
  have i0 : ∀ w, (Instr.index 27 (.agg #[.int .u64 a0, .int .u64 a1, .int .u64 a2, .int .u64 a3, .int .u64 a4, .int .u64 a5]) (.int .i64 0)).run Tryz.prog w = .ok (.int .u64 a0) w := fun _ => by kernel_rfl
  have i1 : ∀ w, (Instr.index 27 (.agg #[.int .u64 a0, .int .u64 a1, .int .u64 a2, .int .u64 a3, .int .u64 a4, .int .u64 a5]) (.int .i64 1)).run Tryz.prog w = .ok (.int .u64 a1) w := fun _ => by kernel_rfl
  have i2 : ∀ w, (Instr.index 27 (.agg #[.int .u64 a0, .int .u64 a1, .int .u64 a2, .int .u64 a3, .int .u64 a4, .int .u64 a5]) (.int .i64 2)).run Tryz.prog w = .ok (.int .u64 a2) w := fun _ => by kernel_rfl
  have i3 : ∀ w, (Instr.index 27 (.agg #[.int .u64 a0, .int .u64 a1, .int .u64 a2, .int .u64 a3, .int .u64 a4, .int .u64 a5]) (.int .i64 3)).run Tryz.prog w = .ok (.int .u64 a3) w := fun _ => by kernel_rfl
  have i4 : ∀ w, (Instr.index 27 (.agg #[.int .u64 a0, .int .u64 a1, .int .u64 a2, .int .u64 a3, .int .u64 a4, .int .u64 a5]) (.int .i64 4)).run Tryz.prog w = .ok (.int .u64 a4) w := fun _ => by kernel_rfl
  have i5 : ∀ w, (Instr.index 27 (.agg #[.int .u64 a0, .int .u64 a1, .int .u64 a2, .int .u64 a3, .int .u64 a4, .int .u64 a5]) (.int .i64 5)).run Tryz.prog w = .ok (.int .u64 a5) w := fun _ => by kernel_rfl
  go_enter Tryz.func106, Tryz.ntmps106
  go_wp2_with (go_at_call 139; refine (split_any _ _ (by assumption)).mono ?_; rintro e w' ⟨rfl, rfl⟩)
  go_loopw [23] (fun i wr => ∃ (k : Nat) (j : Int), k ≤ 6 ∧ j = k ∧ i = .int .i64 j ∧ wr = ((w.alloc (.cells (Rec.cells ⟨nr, arch, ip, a0, a1, a2, a3, a4, a5⟩) 29)).alloc (.cells z16 56)).alloc (.cells (mixC nr arch ip a0 a1 a2 a3 a4 a5 k) 56)) (fun i _ => 6 - (intOf i).toNat)
  case atStart => exact ⟨0, 0, by omega, rfl, rfl, rfl⟩
  case round =>
    obtain ⟨k, j, hk, hj, rfl, rfl⟩ := hrel
    obtain ⟨rfl, rfl⟩ | ⟨rfl, rfl⟩ | ⟨rfl, rfl⟩ | ⟨rfl, rfl⟩ | ⟨rfl, rfl⟩ | ⟨rfl, rfl⟩ | ⟨rfl, rfl⟩ : (k = 0 ∧ j = 0) ∨ (k = 1 ∧ j = 1) ∨ (k = 2 ∧ j = 2) ∨ (k = 3 ∧ j = 3) ∨ (k = 4 ∧ j = 4) ∨ (k = 5 ∧ j = 5) ∨ (k = 6 ∧ j = 6) := by omega
    case inr.inr.inr.inr.inr.inr =>
      clear hj i0 i1 i2 i3 i4 i5
      simp only [mixC, z16]
      go_wp2_with fail
      (try simp only [Exit.inBlock, Exit.then])
      refine bodyPost_ret (v := .agg (mixC nr arch ip a0 a1 a2 a3 a4 a5 6)) ?_ rfl ⟨by rw [HM.out], ?_⟩
      · simp only [mixC]
        simp [results, Tryz.results106, go_sem]
      · repeat (first | exact Below.refl _ _ | apply ba)
    all_goals
      clear hj
      simp only [mixC, z16]
      go_wp2_with (go_at_call 139; refine (split_any _ _ (by assumption)).mono ?_; rintro e w' ⟨rfl, rfl⟩)
      go_roundw
      case rel => first | exact ⟨1, 1, by omega, rfl, rfl, rfl⟩ | exact ⟨2, 2, by omega, rfl, rfl, rfl⟩ | exact ⟨3, 3, by omega, rfl, rfl, rfl⟩ | exact ⟨4, 4, by omega, rfl, rfl, rfl⟩ | exact ⟨5, 5, by omega, rfl, rfl, rfl⟩ | exact ⟨6, 6, by omega, rfl, rfl, rfl⟩
      case measure => decide
end Go.Proofs.YtbekkdhlfkongaaGreatDoor

/-
  What data.record answers: the record of sixteen words.
-/
namespace Go.Proofs.YtbekkdhlfkongaaGreatDoor
open Go.ChangeShapes Go.WideShapes Go.ChangeAt Go.RowKit
set_option maxRecDepth 20000

end Go.Proofs.YtbekkdhlfkongaaGreatDoor

/-
  What data.Word answers.
-/
namespace Go.Proofs.YtbekkdhlfkongaaGreatDoor
open Go.ChangeShapes Go.WideShapes Go.ChangeAt Go.RowKit
set_option maxRecDepth 20000

set_option maxHeartbeats 2000000 in
theorem word_any (d : Rec) (n : Nat) (w : World) (hd : d.ok) (hn : n < 4294967296) :
    Calls Tryz.prog 64 #[d.val, .int .u32 n] w fun e w' => e = .returned (.tuple #[.int .u32 (wordAtD d n), .bool (hasW n)]) ∧ Below w.heap.size w w' := by
  cases hh : hasW n
  · have HE : Hid (wordAtD d n = 0) := Lib.hid (by simp [wordAtD, hh])
    go_enter Tryz.func64, Tryz.ntmps64
    go_wp2_with fail
    refine (begins_any n _).mono ?_
    rintro e w1 ⟨rfl, rfl⟩
    rw [hh]
    clear hh
    go_wp2_with fail
    go_ret2
    exact ⟨by rw [HE.out]; rfl, ba _ (Below.refl _ _)⟩
  · have h16 : n / 4 < 16 := by
      simp [hasW] at hh
      omega
    have HD := Lib.hid hd
    have HE : Hid (wordAtD d n = (wordsD d).getD (n / 4) 0) := Lib.hid (by simp [wordAtD, hh])
    clear hd
    go_enter Tryz.func64, Tryz.ntmps64
    go_wp2_with fail
    refine (begins_any n _).mono ?_
    rintro e w1 ⟨rfl, rfl⟩
    rw [hh]
    clear hh
    go_wp2_with fail
    refine (words_any d _ HD.out).mono ?_
    rintro e w1 ⟨rfl, hb1⟩
    have HB1 := Lib.hid (below2 (ba (.cells d.cells 29) (Below.refl w.heap.size w)) hb1)
    clear hb1
    obtain ⟨x0, x1, x2, x3, x4, x5, x6, x7, x8, x9, x10, x11, x12, x13, x14, x15, hx⟩ := list16 (words_len d)
    have hc : (w1.alloc (.cells #[.int .u32 x0, .int .u32 x1, .int .u32 x2, .int .u32 x3, .int .u32 x4, .int .u32 x5, .int .u32 x6, .int .u32 x7, .int .u32 x8, .int .u32 x9, .int .u32 x10, .int .u32 x11, .int .u32 x12, .int .u32 x13, .int .u32 x14, .int .u32 x15] 56)).cell? ⟨w1.heap.size, n / 4, none⟩ = some (.int .u32 (wordAtD d n : Nat)) := by
      have e : (#[.int .u32 x0, .int .u32 x1, .int .u32 x2, .int .u32 x3, .int .u32 x4, .int .u32 x5, .int .u32 x6, .int .u32 x7, .int .u32 x8, .int .u32 x9, .int .u32 x10, .int .u32 x11, .int .u32 x12, .int .u32 x13, .int .u32 x14, .int .u32 x15] : Array Value) = (wcells (wordsD d)).toArray := by rw [hx]; rfl
      rw [cell_in (heap_alloc_new _ _), e, HE.out, List.getElem?_toArray, List.getElem?_map, List.getD_eq_getElem?_getD, List.getElem?_eq_getElem (by rw [words_len]; exact h16)]
      rfl
    rw [hx]
    simp only [wsV, wcells, List.map_cons, List.map_nil]
    have q0 : (0 : Int) ≤ (n : Int) / 4 := by omega
    have q1 : (n : Int) / 4 < 16 := by omega
    have q2 : ((n : Int) / 4).toNat = n / 4 := by omega
    have HBn := Lib.hid (ba (.cells #[.int .u32 x0, .int .u32 x1, .int .u32 x2, .int .u32 x3, .int .u32 x4, .int .u32 x5, .int .u32 x6, .int .u32 x7, .int .u32 x8, .int .u32 x9, .int .u32 x10, .int .u32 x11, .int .u32 x12, .int .u32 x13, .int .u32 x14, .int .u32 x15] 56) HB1.out)
    clear hx HB1 HE
    go_wp2_with fail
    go_ret2
    exact ⟨rfl, HBn.out⟩

end Go.Proofs.YtbekkdhlfkongaaGreatDoor
/-
  States, as they lie in a world; what run.cell and run.withCell answer.
-/
namespace Go.Proofs.YtbekkdhlfkongaaGreatDoor
open Go.ChangeShapes Go.WideShapes Go.ChangeAt Go.RowKit
set_option maxRecDepth 20000

/-- A state. -/
structure St where
  a : Nat
  x : Nat
  m : List Nat
deriving DecidableEq
def St.ok (s : St) : Prop := s.a ≤ 4294967295 ∧ s.x ≤ 4294967295 ∧ s.m.length = 16 ∧ ∀ v ∈ s.m, v ≤ 4294967295
def zeroSt : St := ⟨0, 0, List.replicate 16 0⟩
theorem zeroSt_ok : zeroSt.ok := ⟨by decide, by decide, by decide, by decide⟩
/-- What is in a cell; 0, if there is none. -/
def mAt (m : List Nat) (i : Nat) : Nat := m.getD i 0
/-- Its eighteen cells (not to be opened by a walk). -/
def stC (s : St) : Array Value := #[.int .u32 s.a, .int .u32 s.x, .int .u32 (mAt s.m 0), .int .u32 (mAt s.m 1), .int .u32 (mAt s.m 2), .int .u32 (mAt s.m 3), .int .u32 (mAt s.m 4), .int .u32 (mAt s.m 5), .int .u32 (mAt s.m 6), .int .u32 (mAt s.m 7), .int .u32 (mAt s.m 8), .int .u32 (mAt s.m 9), .int .u32 (mAt s.m 10), .int .u32 (mAt s.m 11), .int .u32 (mAt s.m 12), .int .u32 (mAt s.m 13), .int .u32 (mAt s.m 14), .int .u32 (mAt s.m 15)]
abbrev St.val (s : St) : Value := .agg (stC s)
abbrev stB (s : St) : Obj := .cells (stC s) 58
theorem mAt_out {m : List Nat} {k : Nat} (h : m.length ≤ k) : mAt m k = 0 := by
  unfold mAt
  rw [List.getD_eq_getElem?_getD, List.getElem?_eq_none h]
  rfl
theorem mAt_set {m : List Nat} (k v i : Nat) (hk : k < m.length) : mAt (m.set k v) i = if i = k then v else mAt m i := by
  unfold mAt
  rw [List.getD_eq_getElem?_getD, List.getD_eq_getElem?_getD]
  by_cases h : i = k
  · subst h
    rw [if_pos rfl, List.getElem?_set_self hk]
    rfl
  · rw [if_neg h, List.getElem?_set_ne (by omega)]
theorem nat16 {k : Nat} (h : k < 16) : k = 0 ∨ k = 1 ∨ k = 2 ∨ k = 3 ∨ k = 4 ∨ k = 5 ∨ k = 6 ∨ k = 7 ∨ k = 8 ∨ k = 9 ∨ k = 10 ∨ k = 11 ∨ k = 12 ∨ k = 13 ∨ k = 14 ∨ k = 15 := by omega
theorem st_a (s : St) : (stC s)[0]? = some (.int .u32 (s.a : Nat)) := rfl
theorem st_x (s : St) : (stC s)[1]? = some (.int .u32 (s.x : Nat)) := rfl
theorem st_m (s : St) {k : Nat} (h : k < 16) : (stC s)[2 + k]? = some (.int .u32 (mAt s.m k : Nat)) := by
  rcases nat16 h with rfl | rfl | rfl | rfl | rfl | rfl | rfl | rfl | rfl | rfl | rfl | rfl | rfl | rfl | rfl | rfl <;> rfl
theorem set_a (s : St) (v : Nat) : (stC s).setIfInBounds 0 (.int .u32 (v : Int)) = stC ⟨v, s.x, s.m⟩ := rfl
theorem set_x (s : St) (v : Nat) : (stC s).setIfInBounds 1 (.int .u32 (v : Int)) = stC ⟨s.a, v, s.m⟩ := rfl
theorem set_m (s : St) {k : Nat} (v : Nat) (hl : s.m.length = 16) (h : k < 16) : (stC s).setIfInBounds (2 + k) (.int .u32 (v : Int)) = stC ⟨s.a, s.x, s.m.set k v⟩ := by
  have e : ∀ i, mAt (s.m.set k v) i = if i = k then v else mAt s.m i := fun i => mAt_set k v i (by omega)
  simp only [stC, e]
  rcases nat16 h with rfl | rfl | rfl | rfl | rfl | rfl | rfl | rfl | rfl | rfl | rfl | rfl | rfl | rfl | rfl | rfl <;> rfl
theorem st_one (s : St) : (stC s).all (·.oneCell') = true := by simp [stC, Value.oneCell']
theorem st_size (s : St) : (stC s).size = 18 := rfl
theorem infoSt : (Tryz.prog.info? 58).map (·.size) = some 18 := by kernel_rfl

/-! ### Rows of a call's own: one that has been written -/
/-- 'w' is written in one row alone, which then holds 'o'. -/
structure RowPut (w w' : World) (g : Nat) (o : Obj) : Prop where
  os : w'.os = w.os
  tape : w'.tape = w.tape
  output : w'.output = w.output
  size : w'.heap.size = w.heap.size
  row : w'.heap[g]? = some o
  rest : ∀ k, k ≠ g → w'.heap[k]? = w.heap[k]?
theorem RowPut.below {w w' a : World} {g B : Nat} {o : Obj} (h : RowPut w w' g o) (hb : Below B a w) (hg : B ≤ g) : Below B a w' :=
  ⟨h.os.trans hb.os, h.tape.trans hb.tape, h.output.trans hb.output, by rw [h.size]; exact hb.size, fun k hk => (h.rest k (by omega)).trans (hb.block k hk)⟩
theorem RowPut.keep {w w' : World} {g k : Nat} {o o' : Obj} (h : RowPut w w' g o) (hk : k ≠ g) (ho : w.heap[k]? = some o') : w'.heap[k]? = some o' := (h.rest k hk).trans ho
theorem rowPut_set {w : World} {g : Nat} {old : Array Value} {t : TypeId} (hg : w.heap[g]? = some (.cells old t)) (cs : Array Value) : RowPut w (w.setRow g cs) g (.cells cs t) :=
  ⟨rfl, rfl, rfl, by unfold World.setRow; simp, setRow_heap w g old cs t (0, 0) hg, fun k hk => setRow_other w g k cs hk⟩
section
variable {ops : Array Oper} {rest : List Oper} {o : Oper} {a : Act} {w : World} {Q : Exit → Act → World → Prop}
/-- A whole state is read. -/
theorem ld_st {g : Nat} {s : St} {x : Operand} (hG : w.heap[g]? = some (stB s)) (hgd : o.guard = none) (ho : o.op = .load 58 x) (hx : a.eval x = .pointer (some ⟨g, 0, none⟩))
    (h : wpList Tryz.prog ops Q rest (a.put o.dst s.val) w) : wpList Tryz.prog ops Q (o :: rest) a w :=
  wpList_load_row hgd 58 x ho g hx 58 (stC s) (0, 0) _ hG Tryz.underlying58 rfl (by rw [st_size]; exact infoSt) h
/-- A whole state is written. -/
theorem st_st {g : Nat} {s : St} {old : Array Value} {x y : Operand} (hG : w.heap[g]? = some (.cells old 58)) (hold : old.size = 18) (hgd : o.guard = none) (ho : o.op = .store 58 x y) (hx : a.eval x = .pointer (some ⟨g, 0, none⟩)) (hy : a.eval y = s.val)
    (h : ∀ w', RowPut w w' g (stB s) → wpList Tryz.prog ops Q rest (a.put o.dst undef) w') : wpList Tryz.prog ops Q (o :: rest) a w :=
  wpList_store_row hgd 58 x y ho g (stC s) hx hy 58 old hG (by rw [st_size]; exact infoSt) (by rw [st_size]; exact hold) (st_one s) (h _ (rowPut_set hG _))
/-- One number of a state is written. -/
theorem st_fld {g i : Nat} {s s' : St} {v : Int} {x y : Operand} (hs : (stC s).setIfInBounds i (.int .u32 v) = stC s') (hG : w.heap[g]? = some (stB s)) (hi : i < 18) (hgd : o.guard = none) (ho : o.op = .store 23 x y) (hx : a.eval x = .pointer (some ⟨g, i, none⟩)) (hy : a.eval y = .int .u32 v)
    (h : ∀ w', RowPut w w' g (stB s') → wpList Tryz.prog ops Q rest (a.put o.dst undef) w') : wpList Tryz.prog ops Q (o :: rest) a w := by
  have hc : ∃ u, w.cell? ⟨g, i, none⟩ = some u := by
    rw [cell_in hG]
    exact ⟨(stC s)[i]'(by rw [st_size]; exact hi), Array.getElem?_eq_getElem _⟩
  obtain ⟨u, hu⟩ := hc
  have hf : w.frozen? ⟨g, i, none⟩ = false := free_in hG i
  have hsc : w.setCell ⟨g, i, none⟩ (.int .u32 v) = w.setRow g (stC s') := by rw [setCell_eq_setRow w g i _ _ _ _ hG, hs]
  have hk := h _ (rowPut_set hG (stC s'))
  rw [← hsc] at hk
  refine wpList_plain hgd fun K hK => ?_
  unfold Oper.wp execOp
  have hz : (sizeOf 23).run Tryz.prog w = .ok 1 w := by kernel_rfl
  simp [ho, hx, hy, Instr.storeAt, Instr.sureAddr, Sem.run_bind, storeVar, hz, Value.cells, storeCells, Result.andThen]
  have hadd : (⟨g, i, none⟩ : Addr).add 0 = ⟨g, i, none⟩ := by unfold Addr.add; split <;> simp_all
  rw [hadd, run_store _ _ _ _ _ rfl, hu]
  simp only [hf, Bool.false_eq_true, if_false]
  exact hK _ _ hk
/-- The results: a state in a cell, and a bool. -/
theorem results_st {fn : Func} {p q : Tmp} (h : fn.results = #[.cell p 58, .tmp q]) {tmps : Array Value} {g : Nat} {s : St} {b : Bool}
    (hp : tmps.getD p undef = .pointer (some ⟨g, 0, none⟩)) (hq : tmps.getD q undef = .bool b) (hG : w.heap[g]? = some (stB s)) : (results fn tmps).run Tryz.prog w = .ok (.tuple #[s.val, .bool b]) w := by
  have hp' : tmps[p]?.getD undef = .pointer (some ⟨g, 0, none⟩) := by simpa using hp
  have hq' : tmps[q]?.getD undef = .bool b := by simpa using hq
  simp [results, h, hp', hq', asAddr, run_loadVar_row w g 58 58 (stC s) (0, 0) _ hG Tryz.underlying58 rfl (by rw [st_size]; exact infoSt)]
theorem results_st1 {fn : Func} {p : Tmp} (h : fn.results = #[.cell p 58]) {tmps : Array Value} {g : Nat} {s : St}
    (hp : tmps.getD p undef = .pointer (some ⟨g, 0, none⟩)) (hG : w.heap[g]? = some (stB s)) : (results fn tmps).run Tryz.prog w = .ok s.val w :=
  results_cell_row h tmps w g 58 (stC s) (0, 0) _ hp hG Tryz.underlying58 rfl (by rw [st_size]; exact infoSt)
end
theorem ka {w : World} {g : Nat} {o : Obj} (o' : Obj) (h : w.heap[g]? = some o) : (w.alloc o').heap[g]? = some o := (Below.heap_alloc w o' g (lt_of_block h)).trans h

theorem kb {w w' : World} {g : Nat} {o : Obj} (hb : Below w.heap.size w w') (h : w.heap[g]? = some o) : w'.heap[g]? = some o := (hb.block _ (lt_of_block h)).trans h
/-- Blocks that a call lays at its head. -/
theorem box2 (w : World) (A B : Obj) : ∃ W, W = (w.alloc A).alloc B ∧ W.heap[w.heap.size]? = some A ∧ W.heap[w.heap.size + 1]? = some B ∧ Below w.heap.size w W :=
  ⟨_, rfl, ka _ (heap_alloc_new _ _), by have h := heap_alloc_new (w.alloc A) B; rw [size_alloc] at h; exact h, ba _ (ba _ (Below.refl _ _))⟩
theorem box3 (w : World) (A B C : Obj) : ∃ W, W = ((w.alloc A).alloc B).alloc C ∧ W.heap[w.heap.size]? = some A ∧ W.heap[w.heap.size + 1]? = some B ∧ W.heap[w.heap.size + 2]? = some C ∧ Below w.heap.size w W := by
  obtain ⟨W, hW, h0, h1, hb⟩ := box2 w A B
  refine ⟨_, rfl, ?_, ?_, ?_, ?_⟩
  · rw [← hW]; exact ka _ h0
  · rw [← hW]; exact ka _ h1
  · have h := heap_alloc_new ((w.alloc A).alloc B) C
    rw [size_alloc, size_alloc] at h
    exact h
  · rw [← hW]; exact ba _ hb
theorem box4 (w : World) (A B C D : Obj) : ∃ W, W = (((w.alloc A).alloc B).alloc C).alloc D ∧ W.heap[w.heap.size]? = some A ∧ W.heap[w.heap.size + 1]? = some B ∧ W.heap[w.heap.size + 2]? = some C ∧ W.heap[w.heap.size + 3]? = some D ∧ Below w.heap.size w W := by
  obtain ⟨W, hW, h0, h1, h2, hb⟩ := box3 w A B C
  refine ⟨_, rfl, ?_, ?_, ?_, ?_, ?_⟩
  · rw [← hW]; exact ka _ h0
  · rw [← hW]; exact ka _ h1
  · rw [← hW]; exact ka _ h2
  · have h := heap_alloc_new (((w.alloc A).alloc B).alloc C) D
    rw [size_alloc, size_alloc, size_alloc] at h
    exact h
  · rw [← hW]; exact ba _ hb

theorem cell_any (s : St) (k : Nat) (w : World) (hs : s.ok) (hk : k < 4294967296) :
    Calls Tryz.prog 65 #[s.val, .int .u32 k] w fun e w' => e = .returned (.int .u32 (mAt s.m k : Nat)) ∧ Below w.heap.size w w' := by
  by_cases h : 16 ≤ k
  · have HE : Hid (mAt s.m k = 0) := Lib.hid (mAt_out (by have := hs.2.2.1; omega))
    have h1 : (16 : Int) ≤ (k : Int) := by omega
    clear hs
    go_enter Tryz.func65, Tryz.ntmps65
    go_wp2_with fail
    go_ret
    exact ⟨by rw [HE.out]; rfl, ba _ (Below.refl _ _)⟩
  · have h16 : k < 16 := by omega
    have h1 : ¬ (16 : Int) ≤ (k : Int) := by omega
    have hc : (w.alloc (stB s)).cell? ⟨w.heap.size, 2 + k, none⟩ = some (.int .u32 (mAt s.m k : Nat)) := by
      rw [cell_in (heap_alloc_new _ _), st_m s h16]
    have hm := st_m s h16
    clear hs
    go_enter Tryz.func65, Tryz.ntmps65
    go_wp2_with fail
    go_ret
    exact ⟨rfl, ba _ (Below.refl _ _)⟩

theorem st_zero : (#[.int .u32 0, .int .u32 0, .int .u32 0, .int .u32 0, .int .u32 0, .int .u32 0, .int .u32 0, .int .u32 0, .int .u32 0, .int .u32 0, .int .u32 0, .int .u32 0, .int .u32 0, .int .u32 0, .int .u32 0, .int .u32 0, .int .u32 0, .int .u32 0] : Array Value) = stC zeroSt := rfl
set_option maxHeartbeats 1000000 in
theorem withCell_any (s : St) (k v : Nat) (w : World) (hs : s.ok) (hk : k < 4294967296) :
    Calls Tryz.prog 66 #[s.val, .int .u32 k, .int .u32 v] w fun e w' => e = .returned (⟨s.a, s.x, s.m.set k v⟩ : St).val ∧ Below w.heap.size w w' := by
  have hG := ka (stB zeroSt) (heap_alloc_new w (stB s))
  have hR := heap_alloc_new (w.alloc (stB s)) (stB zeroSt)
  have hb := ba (stB zeroSt) (ba (stB s) (Below.refl w.heap.size w))
  rw [size_alloc] at hR
  have hz := st_zero
  by_cases h : 16 ≤ k
  · have HE : Hid (s.m.set k v = s.m) := Lib.hid (List.set_eq_of_length_le (by have := hs.2.2.1; omega))
    have h1 : ¬ (k : Int) < 16 := by omega
    clear hs
    go_enter Tryz.func66, Tryz.ntmps66
    go_upto_region 1 with fail
    obtain ⟨W, hW⟩ : ∃ W, W = (w.alloc (stB s)).alloc (stB zeroSt) := ⟨_, rfl⟩
    rw [← hW] at hG hR hb ⊢
    have HG := Lib.hid hG
    have HR := Lib.hid hR
    have HB := Lib.hid hb
    clear hG hR hb hW
    go_wp2_with (first | (refine ld_st HG.out rfl rfl rfl ?_) | (refine st_st HR.out rfl rfl rfl rfl rfl ?_; intro W2 hp2; have HP2 := Lib.hid hp2; clear hp2))
    (try simp only [Exit.inBlock, Exit.then])
    exact bodyPost_ret (results_st1 rfl rfl HP2.out.row) rfl ⟨by rw [HE.out], HP2.out.below HB.out (by omega)⟩
  · have h16 : k < 16 := by omega
    have h1 : (k : Int) < 16 := by omega
    have HS := Lib.hid (set_m s v hs.2.2.1 h16)
    clear hs
    go_enter Tryz.func66, Tryz.ntmps66
    go_upto_region 1 with fail
    obtain ⟨W, hW⟩ : ∃ W, W = (w.alloc (stB s)).alloc (stB zeroSt) := ⟨_, rfl⟩
    rw [← hW] at hG hR hb ⊢
    have HG := Lib.hid hG
    have HR := Lib.hid hR
    have HB := Lib.hid hb
    clear hG hR hb hW
    go_wp2_with (first | (refine st_fld HS.out HG.out (by omega) rfl rfl rfl rfl ?_; intro W1 hp1; have HP1 := Lib.hid hp1; clear hp1) | (refine ld_st HP1.out.row rfl rfl rfl ?_) | (refine st_st (HP1.out.keep (by omega) HR.out) rfl rfl rfl rfl rfl ?_; intro W2 hp2; have HP2 := Lib.hid hp2; clear hp2))
    (try simp only [Exit.inBlock, Exit.then])
    exact bodyPost_ret (results_st1 rfl rfl HP2.out.row) rfl ⟨rfl, HP2.out.below (HP1.out.below HB.out (by omega)) (by omega)⟩
end Go.Proofs.YtbekkdhlfkongaaGreatDoor
/-
  Runs of filters, plainly: states, what an instruction makes of one, which way a branch goes, and what comes of a run.
-/
namespace Go.Proofs.YtbekkdhlfkongaaGreatDoor
open Go.RowKit

/-- What arithmetic takes beside A. -/
def argS (s : St) (x : X4) : Int := if aluX x.op then (s.x : Int) else x.k
/-- Whether the run goes on. -/
def goesS (s : St) (x : X4) : Bool := !aluB x.op || Wd.doB (aluV x.op) (argS s x)
/-- The state behind an instruction, if the run goes on. -/
def stepS (s : St) (x : X4) (d : Rec) : St :=
  if aluB x.op then (if goesS s x then ⟨(Wd.doV (aluV x.op) s.a (argS s x)).toNat, s.x, s.m⟩ else s)
  else if x.op = 0 then ⟨x.k.toNat, s.x, s.m⟩
  else if x.op = 1 then ⟨s.a, x.k.toNat, s.m⟩
  else if x.op = 32 then ⟨wordAtD d x.k.toNat, s.x, s.m⟩
  else if x.op = 96 then ⟨s.m.getD x.k.toNat 0, s.x, s.m⟩
  else if x.op = 97 then ⟨s.a, s.m.getD x.k.toNat 0, s.m⟩
  else if x.op = 2 then ⟨s.a, s.x, s.m.set x.k.toNat s.a⟩
  else if x.op = 3 then ⟨s.a, s.x, s.m.set x.k.toNat s.x⟩
  else if x.op = 7 then ⟨s.a, s.a, s.m⟩
  else if x.op = 135 then ⟨s.x, s.x, s.m⟩
  else if x.op = 132 then ⟨((-(s.a : Int)) % 4294967296).toNat, s.x, s.m⟩
  else s
/-- Which way a branch goes. -/
def takesS (s : St) (x : X4) : Bool :=
  if x.op = 21 then (s.a : Int) == x.k else if x.op = 37 then decide (x.k < s.a) else if x.op = 53 then decide (x.k ≤ s.a) else if x.op = 69 then bits .and .u32 (s.a : Int) x.k != 0
  else if x.op = 29 then s.a == s.x else if x.op = 45 then decide (s.x < s.a) else if x.op = 61 then decide (s.x ≤ s.a) else if x.op = 77 then bits .and .u32 (s.a : Int) (s.x : Int) != 0
  else false
/-- Where the run goes on. -/
def placeS (s : St) (x : X4) (p : Nat) : Nat := p + 1 + (if x.op = 5 then x.k.toNat else if isBranch x.op then (if takesS s x then x.jt.toNat else x.jf.toNat) else 0)
/-- What comes of a run of at most so many instructions, and how many were done. -/
def fromS (f : List X4) (d : Rec) : Nat → St → Nat → Nat × Nat
  | 0, _, _ => (0, 0)
  | n + 1, s, p =>
    let x := f.getD p zeroX
    if x.op = 6 then (x.k.toNat, 1) else if x.op = 22 then (s.a, 1) else if goesS s x = false then (0, 1)
    else ((fromS f d n (stepS s x d) (placeS s x p)).1, (fromS f d n (stepS s x d) (placeS s x p)).2 + 1)
theorem fromS_succ (f : List X4) (d : Rec) (n : Nat) (s : St) (p : Nat) : fromS f d (n + 1) s p = if (f.getD p zeroX).op = 6 then ((f.getD p zeroX).k.toNat, 1) else if (f.getD p zeroX).op = 22 then (s.a, 1) else if goesS s (f.getD p zeroX) = false then (0, 1)
    else ((fromS f d n (stepS s (f.getD p zeroX) d) (placeS s (f.getD p zeroX) p)).1, (fromS f d n (stepS s (f.getD p zeroX) d) (placeS s (f.getD p zeroX) p)).2 + 1) := rfl
def runS (f : List X4) (d : Rec) : Nat × Nat := fromS f d f.length zeroSt 0

theorem doV_nat {k a b : Int} (h0 : 0 ≤ a) (h1 : a ≤ 4294967295) (h2 : 0 ≤ b) : (Wd.doV k a b).toNat ≤ 4294967295 := by
  have := Wd.doV_bd k a b h0 h1 h2
  omega
theorem argS_bd {s : St} {x : X4} (hs : s.ok) (hx : x.ok) : 0 ≤ argS s x ∧ argS s x ≤ 4294967295 := by
  obtain ⟨_, h, _⟩ := hs
  obtain ⟨h0, h1⟩ := hx
  unfold argS
  split <;> omega
theorem wordAtD_le {d : Rec} (h : d.ok) (k : Nat) : wordAtD d k ≤ 4294967295 := by
  unfold wordAtD
  split
  · rw [List.getD_eq_getElem?_getD]
    cases hg : (wordsD d)[k / 4]? with
    | none => simp
    | some v =>
      have := words_lt h v (List.mem_of_getElem? hg)
      simp; omega
  · omega
theorem getD_le {l : List Nat} (h : ∀ v ∈ l, v ≤ 4294967295) (i : Nat) : l.getD i 0 ≤ 4294967295 := by
  rw [List.getD_eq_getElem?_getD]
  cases hg : l[i]? with
  | none => simp
  | some v => simpa using h v (List.mem_of_getElem? hg)
theorem set_le {l : List Nat} (h : ∀ v ∈ l, v ≤ 4294967295) (i a : Nat) (ha : a ≤ 4294967295) : ∀ v ∈ l.set i a, v ≤ 4294967295 := fun v hv => by
  rcases List.mem_or_eq_of_mem_set hv with h1 | rfl
  · exact h v h1
  · exact ha
theorem stepS_ok {s : St} {x : X4} {d : Rec} (hs : s.ok) (hx : x.ok) (hd : d.ok) : (stepS s x d).ok := by
  have hb := argS_bd hs hx
  obtain ⟨h1, h2, h3, h4⟩ := hs
  obtain ⟨k0, k1⟩ := hx
  have hk : x.k.toNat ≤ 4294967295 := by omega
  unfold stepS
  by_cases e : aluB x.op = true
  · rw [if_pos e]
    by_cases g : goesS s x = true
    · rw [if_pos g]; exact ⟨doV_nat (by omega) (by omega) hb.1, h2, h3, h4⟩
    · rw [if_neg g]; exact ⟨h1, h2, h3, h4⟩
  rw [if_neg e]
  by_cases e0 : x.op = 0
  · rw [if_pos e0]; exact ⟨hk, h2, h3, h4⟩
  rw [if_neg e0]
  by_cases e1 : x.op = 1
  · rw [if_pos e1]; exact ⟨h1, hk, h3, h4⟩
  rw [if_neg e1]
  by_cases e32 : x.op = 32
  · rw [if_pos e32]; exact ⟨wordAtD_le hd _, h2, h3, h4⟩
  rw [if_neg e32]
  by_cases e96 : x.op = 96
  · rw [if_pos e96]; exact ⟨getD_le h4 _, h2, h3, h4⟩
  rw [if_neg e96]
  by_cases e97 : x.op = 97
  · rw [if_pos e97]; exact ⟨h1, getD_le h4 _, h3, h4⟩
  rw [if_neg e97]
  by_cases e2 : x.op = 2
  · rw [if_pos e2]; exact ⟨h1, h2, by rw [List.length_set]; exact h3, set_le h4 _ _ h1⟩
  rw [if_neg e2]
  by_cases e3 : x.op = 3
  · rw [if_pos e3]; exact ⟨h1, h2, by rw [List.length_set]; exact h3, set_le h4 _ _ h2⟩
  rw [if_neg e3]
  by_cases e7 : x.op = 7
  · rw [if_pos e7]; exact ⟨h1, h1, h3, h4⟩
  rw [if_neg e7]
  by_cases e135 : x.op = 135
  · rw [if_pos e135]; exact ⟨h2, h2, h3, h4⟩
  rw [if_neg e135]
  by_cases e132 : x.op = 132
  · rw [if_pos e132]; exact ⟨by simp only; omega, h2, h3, h4⟩
  rw [if_neg e132]; exact ⟨h1, h2, h3, h4⟩
/-- The next place is one where a run may go. -/
theorem placeS_next {s : St} {x : X4} {p : Nat} (hr : x.right = true) (hx : x.ok) (he : endsE x = false) : ((placeS s x p : Nat) : Int) ∈ nextX x p := by
  obtain ⟨j0, j1, _, _⟩ := right_jumps hr
  have hk := hx.1
  unfold placeS nextX
  rw [he]
  simp only [Bool.false_eq_true, if_false]
  by_cases h5 : x.op = 5
  · have : (x.op == 5) = true := by simpa using h5
    rw [this, if_pos h5]
    simp only [if_true, List.mem_singleton]
    omega
  · have : (x.op == 5) = false := by simpa using h5
    rw [this, if_neg h5]
    simp only [Bool.false_eq_true, if_false]
    cases isBranch x.op
    · simp
    · simp only [if_true]
      by_cases hJ : x.jt = x.jf
      · have : (x.jt == x.jf) = true := by simpa using hJ
        rw [this]
        simp only [if_true, List.mem_singleton]
        split <;> omega
      · have : (x.jt == x.jf) = false := by simpa using hJ
        rw [this]
        simp only [Bool.false_eq_true, if_false, List.mem_cons, List.not_mem_nil, or_false]
        split <;> omega
theorem ends_op {x : X4} : endsE x = false ↔ ¬ x.op = 6 ∧ ¬ x.op = 22 := by
  unfold endsE
  simp
/-- In a sound filter, from each place on: the next place is behind, and within. -/
theorem placeS_in {f : List X4} (hs : SoundL f) (hok : ∀ x ∈ f, x.ok) {p : Nat} (hp : p < f.length) (s : St) (he : endsE (f.getD p zeroX) = false) : p < placeS s (f.getD p zeroX) p ∧ placeS s (f.getD p zeroX) p < f.length := by
  rw [getD_at hp] at he ⊢
  have hb := hs.2.2.1 p hp
  rw [badAt_at hp] at hb
  have h := next_in hs hok hp _ (placeS_next (s := s) (p := p) (one_right hb) (hok _ (List.getElem_mem hp)) he)
  omega
/-- A sound filter's run hangs not on how many instructions it may take, if these are enough. -/
theorem fromS_more {f : List X4} (hs : SoundL f) (hok : ∀ x ∈ f, x.ok) (d : Rec) : ∀ (n m : Nat) (s : St) (p : Nat), p < f.length → f.length - p ≤ n → f.length - p ≤ m → fromS f d n s p = fromS f d m s p
  | 0, _, _, _, h, h1, _ => by omega
  | _, 0, _, _, h, _, h2 => by omega
  | n + 1, m + 1, s, p, h, h1, h2 => by
    unfold fromS
    simp only
    by_cases h6 : (f.getD p zeroX).op = 6
    · rw [if_pos h6, if_pos h6]
    by_cases h22 : (f.getD p zeroX).op = 22
    · rw [if_neg h6, if_neg h6, if_pos h22, if_pos h22]
    obtain ⟨q1, q2⟩ := placeS_in hs hok h s (ends_op.2 ⟨h6, h22⟩)
    rw [fromS_more hs hok d n m _ _ q2 (by omega) (by omega)]
/-- At least one instruction is done, and at most as many as are left. -/
theorem fromS_len {f : List X4} (hs : SoundL f) (hok : ∀ x ∈ f, x.ok) (d : Rec) : ∀ (n : Nat) (s : St) (p : Nat), p < f.length → f.length - p ≤ n → 1 ≤ (fromS f d n s p).2 ∧ (fromS f d n s p).2 ≤ f.length - p
  | 0, _, _, h, h1 => by omega
  | n + 1, s, p, h, h1 => by
    unfold fromS
    simp only
    by_cases h6 : (f.getD p zeroX).op = 6
    · rw [if_pos h6]; simp only; omega
    by_cases h22 : (f.getD p zeroX).op = 22
    · rw [if_neg h6, if_pos h22]; simp only; omega
    obtain ⟨q1, q2⟩ := placeS_in hs hok h s (ends_op.2 ⟨h6, h22⟩)
    have ih := fromS_len hs hok d n (stepS s (f.getD p zeroX) d) (placeS s (f.getD p zeroX) p) q2 (by omega)
    rw [if_neg h6, if_neg h22]
    split
    · simp only; omega
    · simp only; omega
/-- What stands ahead, and is gone past, makes no difference. -/
theorem getD_behind (l f : List X4) (p : Nat) : (l ++ f).getD (l.length + p) zeroX = f.getD p zeroX := by
  rw [List.getD_eq_getElem?_getD, List.getElem?_append_right (by omega), List.getD_eq_getElem?_getD, Nat.add_sub_cancel_left]
theorem placeS_shift (s : St) (x : X4) (l p : Nat) : placeS s x (l + p) = l + placeS s x p := by unfold placeS; omega
theorem fromS_behind (l f : List X4) (d : Rec) : ∀ (n : Nat) (s : St) (p : Nat), fromS (l ++ f) d n s (l.length + p) = fromS f d n s p
  | 0, _, _ => rfl
  | n + 1, s, p => by
    unfold fromS
    simp only
    rw [getD_behind, placeS_shift, fromS_behind l f d n]
/-- A jump ahead, over what is never come to. -/
theorem alu5 : aluB 5 = false := by decide
end Go.Proofs.YtbekkdhlfkongaaGreatDoor
/-
  The document's own instructions (package hurdleref02): Ops, Words, place, plain, branch.
-/
namespace Go.Proofs.YtbekkdhlfkongaaGreatDoor
open Go.ChangeShapes Go.WideShapes Go.ChangeAt Go.RowKit
set_option maxRecDepth 20000

def opAt (i : Nat) : Int := Ip.refOps.getD i 0
def opsC : Array Value := (Ip.refOps.map fun n => Value.int .i64 n).toArray
theorem opsC_at (i : Nat) (h : i < 39) : opsC[i]? = some (.int .i64 (opAt i)) := by
  have hl : Ip.refOps.length = 39 := rfl
  simp [opsC, opAt, List.getD, hl, h]
theorem ops_any (w : World) :
    Calls Tryz.prog 123 #[] w fun e w' => e = .returned (.slice (some ⟨w.heap.size, 0, none⟩) 39 39) ∧ w'.heap[w.heap.size]? = some (.cells opsC 3 (0, 0)) ∧ Below w.heap.size w w' := by
  go_enter Tryz.func123, Tryz.ntmps123
  go_wp2
  go_ret
  exact ⟨rfl, heap_alloc_new _ _, ba _ (Below.refl _ _)⟩
theorem plain_any (i : Int) (w : World) :
    Calls Tryz.prog 141 #[.int .i64 i] w fun e w' => e = .returned (.bool (Ip.plainB i)) ∧ w = w' := by
  go_enter Tryz.func141, Tryz.ntmps141
  go_wp2
  all_goals go_ret
  all_goals refine ⟨ret1 ?_, rfl⟩
  all_goals
    show _ = Ip.plainB i
    unfold Ip.plainB
    rw [Bool.eq_iff_iff]
    simp
    omega
theorem rbranch_any (i : Int) (w : World) :
    Calls Tryz.prog 86 #[.int .i64 i] w fun e w' => e = .returned (.bool (Ip.branchB i)) ∧ w = w' := by
  go_enter Tryz.func86, Tryz.ntmps86
  go_wp2
  go_ret
  exact ⟨rfl, rfl⟩
set_option maxHeartbeats 1000000 in
theorem place_any (k : Int) (w : World) :
    Calls Tryz.prog 87 #[.int .i64 k] w fun e w' => e = .returned (.int .i64 (Ip.plc k)) ∧ Below w.heap.size w w' := by
  go_enter Tryz.func87, Tryz.ntmps87
  go_wp2_with fail
  refine (ops_any _).mono ?_
  rintro e w1 ⟨rfl, hH, hB⟩
  have HH := Lib.hid hH
  have HB := Lib.hid hB
  clear hH hB
  go_wp2_with fail
  go_loop [4] (fun i => ∃ n : Nat, n ≤ 39 ∧ i = .int .i64 n ∧ (∀ j, j < n → (opAt j == k) = false)) (fun i => 39 - (intOf i).toNat)
  case atStart => exact ⟨0, by omega, rfl, fun j hj => by omega⟩
  case round =>
    obtain ⟨n, hn, rfl, hno⟩ := hrel
    have NO := Lib.hid hno
    clear hno
    by_cases hlt : n < 39
    · have hc : w1.cell? ⟨w.heap.size, n, none⟩ = some (.int .i64 (opAt n)) := (cell_in HH.out n).trans (opsC_at n hlt)
      cases hop : (opAt n == k)
      · go_wp2_with fail
        go_round
        case rel =>
          refine ⟨n + 1, by omega, by go_num, fun j hj => ?_⟩
          by_cases hj' : j < n
          · exact NO.out j hj'
          · obtain rfl : j = n := by omega
            exact hop
        case measure => simp [intOf]; omega
      · go_wp2_with fail
        go_ret
        exact ⟨by rw [Ip.plc_at hlt hop NO.out]; rfl, HB.out⟩
    · go_wp2_with fail
      go_ret
      exact ⟨by rw [Ip.plc_none fun j hj => NO.out j (by omega)]; rfl, HB.out⟩
end Go.Proofs.YtbekkdhlfkongaaGreatDoor

/-
  The document's own answers on instructions (package hurdleref02): Right answers as package ins does.
-/
namespace Go.Proofs.YtbekkdhlfkongaaGreatDoor
open Go.ChangeShapes Go.WideShapes Go.ChangeAt Go.RowKit
set_option maxRecDepth 20000

theorem place_is {k p : Int} (h : Ip.plc k = p) (w : World) :
    Calls Tryz.prog 87 #[.int .i64 k] w fun e w' => e = .returned (.int .i64 p) ∧ Below w.heap.size w w' := by
  rw [← h]
  exact place_any k w
theorem right_at {op jt jf k : Int} {i : Nat} (hi : i < 39) (hb : Ip.byOp op = some (Ip.refRow i)) : right op jt jf k = ((!Ip.plainB i || k == 0) && (if Ip.branchB i then Ip.isJ jt && Ip.isJ jf else jt == 0 && jf == 0)) := by
  obtain ⟨_, _, _, h4, h5, _⟩ := Ip.ref_all i hi
  unfold right
  rw [hb]
  show (true && Ip.fits (Ip.refRow i).fmt jt jf k) = _
  unfold Ip.fits
  rw [h4, h5, Bool.true_and]
theorem right_none {op jt jf k : Int} (hb : Ip.byOp op = none) : right op jt jf k = false := by
  unfold right
  rw [hb]
  rfl

set_option maxHeartbeats 2000000 in
theorem refRight_any (op jt jf k : Int) (w : World) :
    Calls Tryz.prog 110 #[insV op jt jf k] w fun e w' => e = .returned (.bool (right op jt jf k)) ∧ Below w.heap.size w w' := by
  have HB0 := Lib.hid (ba (insB op jt jf k) (Below.refl w.heap.size w))
  have HH0 : Hid ((w.alloc (insB op jt jf k)).heap[w.heap.size]? = some (insB op jt jf k)) := Lib.hid (heap_alloc_new _ _)
  rcases Ip.plc_cases op with ⟨i, hi, hp, hq, hb, hm⟩ | ⟨hp, hb⟩
  · have HG := Lib.hid (right_at (jt := jt) (jf := jf) (k := k) hi hb)
    have HP := Lib.hid hp
    clear hp hb hq hm
    cases hP : Ip.plainB i <;> cases hk : (k != 0) <;> cases hBr : Ip.branchB i
    all_goals
      go_enter Tryz.func110, Tryz.ntmps110
      go_wp2_with fail
      refine (place_is HP.out _).mono ?_
      rintro e w1 ⟨rfl, hb1⟩
      have hH1 := (hb1.block _ (lt_of_block HH0.out)).trans HH0.out
      have HB1 := Lib.hid (HB0.out.trans (hb1.mono HB0.out.size))
      have c1 : w1.cell? ⟨w.heap.size, 1, none⟩ = some (.int .i64 jt) := cell_in hH1 1
      have c2 : w1.cell? ⟨w.heap.size, 2, none⟩ = some (.int .i64 jf) := cell_in hH1 2
      have c3 : w1.cell? ⟨w.heap.size, 3, none⟩ = some (.int .u32 k) := cell_in hH1 3
      clear hb1 hH1
      go_wp2_with (first
        | (go_at_call 141; refine (plain_any _ _).mono ?_; rintro e w' ⟨rfl, rfl⟩)
        | (go_at_call 86; refine (rbranch_any _ _).mono ?_; rintro e w' ⟨rfl, rfl⟩))
      all_goals go_ret
      all_goals
        refine ⟨ret1 ?_, HB1.out⟩
        rw [HG.out]
        have hk' : (k == 0) = !(k != 0) := by simp [bne]
        rw [hk', hk, hP, hBr, Bool.eq_iff_iff]
        simp [Ip.isJ]
        try omega
  · have HG := Lib.hid (right_none (jt := jt) (jf := jf) (k := k) hb)
    have HP := Lib.hid hp
    clear hp hb
    go_enter Tryz.func110, Tryz.ntmps110
    go_wp2_with fail
    refine (place_is HP.out _).mono ?_
    rintro e w1 ⟨rfl, hb1⟩
    have HB1 := Lib.hid (HB0.out.trans (hb1.mono HB0.out.size))
    clear hb1
    go_wp2_with fail
    go_ret
    exact ⟨ret1 HG.out.symm, HB1.out⟩

end Go.Proofs.YtbekkdhlfkongaaGreatDoor

/-
  The document's own answers on instructions (package hurdleref02): Branch, Ends answer as package ins does.
-/
namespace Go.Proofs.YtbekkdhlfkongaaGreatDoor
open Go.ChangeShapes Go.WideShapes Go.ChangeAt Go.RowKit

theorem refEnds_any (op jt jf k : Int) (w : World) :
    Calls Tryz.prog 73 #[insV op jt jf k] w fun e w' => e = .returned (.bool (op == 6 || op == 22)) ∧ Below w.heap.size w w' := by
  have hb := ba (insB op jt jf k) (Below.refl w.heap.size w)
  have go : ∀ b : Bool, (op == 6) = b → Calls Tryz.prog 73 #[insV op jt jf k] w fun e w' => e = .returned (.bool (b || op == 22)) ∧ Below w.heap.size w w' := by
    intro b h
    cases b
    · go_enter Tryz.func73, Tryz.ntmps73
      go_wp2
      go_ret
      exact ⟨rfl, hb⟩
    · go_enter Tryz.func73, Tryz.ntmps73
      go_wp2
      go_ret
      exact ⟨rfl, hb⟩
  exact go _ rfl
theorem refBranch_any (op jt jf k : Int) (w : World) :
    Calls Tryz.prog 48 #[insV op jt jf k] w fun e w' => e = .returned (.bool (isBranch op)) ∧ Below w.heap.size w w' := by
  have HB0 := Lib.hid (ba (insB op jt jf k) (Below.refl w.heap.size w))
  have HG : Hid (isBranch op = Ip.branchB (Ip.plc op)) := Lib.hid (by
    rcases Ip.plc_cases op with ⟨i, hi, hp, _, hb, _⟩ | ⟨hp, hb⟩
    · unfold isBranch
      rw [hb, hp]
      exact (Ip.ref_all i hi).2.2.2.2.1
    · unfold isBranch
      rw [hb, hp]
      rfl)
  go_enter Tryz.func48, Tryz.ntmps48
  go_wp2_with fail
  refine (place_any _ _).mono ?_
  rintro e w1 ⟨rfl, hb1⟩
  have HB1 := Lib.hid (HB0.out.trans (hb1.mono HB0.out.size))
  clear hb1
  go_wp2_with fail
  refine (rbranch_any _ _).mono ?_
  rintro e w2 ⟨rfl, rfl⟩
  go_wp2_with fail
  go_ret
  exact ⟨ret1 HG.out.symm, HB1.out⟩
end Go.Proofs.YtbekkdhlfkongaaGreatDoor

/-
  The document's own arithmetic of an instruction (hurdleref02.Alu) answers as ins.Alu does.
-/
namespace Go.Proofs.YtbekkdhlfkongaaGreatDoor
open Go.ChangeShapes Go.WideShapes Go.ChangeAt Go.RowKit

theorem alu_is (op jt jf k : Int) (w : World) (ht : OTab w) :
    Calls Tryz.prog 107 #[insV op jt jf k] w fun e w' => e = .returned (.tuple #[.int .i64 (aluV op), .bool (aluX op), .bool (aluB op)]) ∧ Below w.heap.size w w' := by
  refine (alu_any op jt jf k w ht).mono ?_
  rintro e w' ⟨r, b, hr, hb, rfl, hB⟩
  subst hr hb
  exact ⟨rfl, hB⟩
theorem ret3s {a a' : Int} {b b' c c' : Bool} (h : a' = a ∧ b' = b ∧ c' = c) : Ending.returned (.tuple #[.int .i64 a, .bool b, .bool c]) = .returned (.tuple #[.int .i64 a', .bool b', .bool c']) := by rw [h.1, h.2.1, h.2.2]

set_option maxHeartbeats 1000000 in
theorem refAlu_any (op jt jf k : Int) (w : World) :
    Calls Tryz.prog 89 #[insV op jt jf k] w fun e w' => e = .returned (.tuple #[.int .i64 (aluV op), .bool (aluX op), .bool (aluB op)]) ∧ Below w.heap.size w w' := by
  have HB0 := Lib.hid (ba (insB op jt jf k) (Below.refl w.heap.size w))
  have HH0 : Hid ((w.alloc (insB op jt jf k)).heap[w.heap.size]? = some (insB op jt jf k)) := Lib.hid (heap_alloc_new _ _)
  rcases Ip.plc_cases op with ⟨i, hi, hp, hq, hb, hm⟩ | ⟨hp, hb⟩
  · have HP := Lib.hid hp
    have HA := Lib.hid (alu_at hi hq hb)
    have hbd := Ip.row_bd _ hm
    have h2 := (Ip.ref_all i hi).2.1
    rw [← hq] at h2
    rw [h2] at hbd
    obtain ⟨hd0, hd1⟩ := hbd
    clear hp hq hb hm h2
    by_cases h1 : 4 ≤ i ∧ i ≤ 12
    · obtain ⟨h1, h1'⟩ := h1
      go_enter Tryz.func89, Tryz.ntmps89
      go_wp2_with fail
      refine (place_is HP.out _).mono ?_
      rintro e w1 ⟨rfl, hb1⟩
      have hH1 := (hb1.block _ (lt_of_block HH0.out)).trans HH0.out
      have HB1 := Lib.hid (HB0.out.trans (hb1.mono HB0.out.size))
      have c0 : w1.cell? ⟨w.heap.size, 0, none⟩ = some (.int .i64 op) := cell_in hH1 0
      clear hb1 hH1
      go_wp2_with fail
      go_ret3
      exact ⟨ret3s (HA.out.1 h1 h1'), HB1.out⟩
    · by_cases h2 : 13 ≤ i ∧ i ≤ 21
      · obtain ⟨h2, h2'⟩ := h2
        have h1'' : ¬ i ≤ 12 := by omega
        go_enter Tryz.func89, Tryz.ntmps89
        go_wp2_with fail
        refine (place_is HP.out _).mono ?_
        rintro e w1 ⟨rfl, hb1⟩
        have hH1 := (hb1.block _ (lt_of_block HH0.out)).trans HH0.out
        have HB1 := Lib.hid (HB0.out.trans (hb1.mono HB0.out.size))
        have c0 : w1.cell? ⟨w.heap.size, 0, none⟩ = some (.int .i64 op) := cell_in hH1 0
        clear hb1 hH1
        go_wp2_with fail
        go_ret3
        exact ⟨ret3s (HA.out.2.1 h2 h2'), HB1.out⟩
      · have h3 : i < 4 ∨ 21 < i := by omega
        have HE := Lib.hid (HA.out.2.2 h3)
        clear h1 h2
        rcases h3 with h3 | h3
        all_goals
          go_enter Tryz.func89, Tryz.ntmps89
          go_wp2_with fail
          refine (place_is HP.out _).mono ?_
          rintro e w1 ⟨rfl, hb1⟩
          have HB1 := Lib.hid (HB0.out.trans (hb1.mono HB0.out.size))
          clear hb1
          go_wp2_with fail
          go_ret3
          exact ⟨ret3s HE.out, HB1.out⟩
  · have HE := Lib.hid (alu_none hb)
    have HP := Lib.hid hp
    clear hp hb
    go_enter Tryz.func89, Tryz.ntmps89
    go_wp2_with fail
    refine (place_is HP.out _).mono ?_
    rintro e w1 ⟨rfl, hb1⟩
    have HB1 := Lib.hid (HB0.out.trans (hb1.mono HB0.out.size))
    clear hb1
    go_wp2_with fail
    go_ret3
    exact ⟨ret3s HE.out, HB1.out⟩
end Go.Proofs.YtbekkdhlfkongaaGreatDoor
/-
  What word.Do and word.Neg answer, for any kind and any two numbers, in every world.
-/
namespace Go.Proofs.YtbekkdhlfkongaaGreatDoor
open Go.ChangeShapes Go.WideShapes Go.ChangeAt Go.RowKit

theorem neg_any (a : Int) (w : World) :
    Calls Tryz.prog 67 #[.int .u32 a] w fun e w' => e = .returned (.int .u32 ((-a) % 4294967296)) ∧ w = w' := by
  go_enter Tryz.func67, Tryz.ntmps67
  go_wp2
  go_ret
  exact ⟨rfl, rfl⟩

theorem divide_some (a b : Int) (w : World) (h0 : 0 ≤ a) (h1 : a ≤ 4294967295) (h2 : 1 ≤ b) (h3 : b ≤ 4294967295) :
    Calls Tryz.prog 140 #[.int .u32 a, .int .u32 b] w fun e w' => e = .returned (.tuple #[.int .u32 (a / b), .bool true]) ∧ w = w' := by
  have hb : (b == 0) = false := by simp; omega
  go_enter Tryz.func140, Tryz.ntmps140
  go_wp2
  go_ret2
  exact ⟨rfl, rfl⟩
theorem divide_zero (a : Int) (w : World) :
    Calls Tryz.prog 140 #[.int .u32 a, .int .u32 0] w fun e w' => e = .returned (.tuple #[.int .u32 0, .bool false]) ∧ w = w' := by
  go_enter Tryz.func140, Tryz.ntmps140
  go_wp2
  go_ret2
  exact ⟨rfl, rfl⟩

theorem ret2 {v v' : Int} {c c' : Bool} (h : v = v') (hc : c = c') : Ending.returned (.tuple #[.int .u32 v, .bool c]) = .returned (.tuple #[.int .u32 v', .bool c']) := by rw [h, hc]

set_option maxHeartbeats 1000000 in
/-- word.Do, at any kind. -/
theorem do_any (k a b : Int) (w : World) (h0 : 0 ≤ a) (h1 : a ≤ 4294967295) (h2 : 0 ≤ b) (h3 : b ≤ 4294967295) :
    Calls Tryz.prog 108 #[.int .i64 k, .int .u32 a, .int .u32 b] w fun e w' => e = .returned (.tuple #[.int .u32 (Wd.doV k a b), .bool (Wd.doB k b)]) ∧ w = w' := by
  by_cases c4 : k = 4
  · subst c4
    go_enter Tryz.func108, Tryz.ntmps108
    go_wp2
    go_ret2
    exact ⟨ret2 rfl rfl, rfl⟩
  by_cases c20 : k = 20
  · subst c20
    clear c4
    go_enter Tryz.func108, Tryz.ntmps108
    go_wp2
    go_ret2
    exact ⟨ret2 rfl rfl, rfl⟩
  by_cases c36 : k = 36
  · subst c36
    clear c4 c20
    go_enter Tryz.func108, Tryz.ntmps108
    go_wp2
    go_ret2
    exact ⟨ret2 rfl rfl, rfl⟩
  by_cases c52 : k = 52
  · subst c52
    clear c4 c20 c36
    by_cases hb : b = 0
    · subst hb
      go_enter Tryz.func108, Tryz.ntmps108
      go_wp2_with (go_at_call 140; refine (divide_zero _ _).mono ?_; rintro e w' ⟨rfl, rfl⟩)
      go_ret2
      exact ⟨ret2 rfl rfl, rfl⟩
    · have hb1 : 1 ≤ b := by omega
      have hbd : (decide (b = 0)) = false := by simpa using hb
      have HB := Lib.hid hbd
      have hv := Lib.hid (Wd.doV_div a b hb)
      clear hb hbd
      go_enter Tryz.func108, Tryz.ntmps108
      go_wp2_with (go_at_call 140; refine (divide_some _ _ _ h0 h1 hb1 h3).mono ?_; rintro e w' ⟨rfl, rfl⟩)
      go_ret2
      exact ⟨ret2 hv.out.symm (by unfold Wd.doB; rw [HB.out]; rfl), rfl⟩
  by_cases c68 : k = 68
  · subst c68
    clear c4 c20 c36 c52
    go_enter Tryz.func108, Tryz.ntmps108
    go_wp2
    go_ret2
    exact ⟨ret2 rfl rfl, rfl⟩
  by_cases c84 : k = 84
  · subst c84
    clear c4 c20 c36 c52 c68
    go_enter Tryz.func108, Tryz.ntmps108
    go_wp2
    go_ret2
    exact ⟨ret2 rfl rfl, rfl⟩
  by_cases c100 : k = 100
  · subst c100
    clear c4 c20 c36 c52 c68 c84
    have e31 := Wd.and31 b h2 h3
    have l0 : 0 ≤ bits .and .u32 b 31 := by omega
    have l1 : bits .and .u32 b 31 ≤ 32 := by omega
    have H := Lib.hid e31
    clear e31
    go_enter Tryz.func108, Tryz.ntmps108
    go_wp2
    go_ret2
    exact ⟨ret2 (by rw [Wd.doV_lsh, ← H.out]) rfl, rfl⟩
  by_cases c116 : k = 116
  · subst c116
    clear c4 c20 c36 c52 c68 c84 c100
    have e31 := Wd.and31 b h2 h3
    have l0 : 0 ≤ bits .and .u32 b 31 := by omega
    have l1 : bits .and .u32 b 31 ≤ 32 := by omega
    have H := Lib.hid e31
    clear e31
    go_enter Tryz.func108, Tryz.ntmps108
    go_wp2
    go_ret2
    exact ⟨ret2 (by rw [Wd.doV_rsh, ← H.out]) rfl, rfl⟩
  by_cases c164 : k = 164
  · subst c164
    clear c4 c20 c36 c52 c68 c84 c100 c116
    go_enter Tryz.func108, Tryz.ntmps108
    go_wp2
    go_ret2
    exact ⟨ret2 rfl rfl, rfl⟩
  · have hv : Wd.doV k a b = 0 := by unfold Wd.doV; simp only [if_neg c4, if_neg c20, if_neg c36, if_neg c52, if_neg c68, if_neg c84, if_neg c100, if_neg c116, if_neg c164]
    have hc : Wd.doB k b = false := by unfold Wd.doB; simp [c4, c20, c36, c52, c68, c84, c100, c116, c164]
    have Hv := Lib.hid hv
    have Hc := Lib.hid hc
    have b4 : (k == 4) = false := by simpa using c4
    have b20 : (k == 20) = false := by simpa using c20
    have b36 : (k == 36) = false := by simpa using c36
    have b52 : (k == 52) = false := by simpa using c52
    have b68 : (k == 68) = false := by simpa using c68
    have b84 : (k == 84) = false := by simpa using c84
    have b100 : (k == 100) = false := by simpa using c100
    have b116 : (k == 116) = false := by simpa using c116
    have b164 : (k == 164) = false := by simpa using c164
    clear hv hc c4 c20 c36 c52 c68 c84 c100 c116 c164
    go_enter Tryz.func108, Tryz.ntmps108
    go_wp2
    go_ret2
    exact ⟨ret2 Hv.out.symm Hc.out.symm, rfl⟩
end Go.Proofs.YtbekkdhlfkongaaGreatDoor

/-
  The document's own answers for arithmetic (package hurdleref01): Do and Neg answer the same as the plain functions.
-/
namespace Wd
open Go
/-- A power of two. -/
def pw (k : Nat) : Nat := 2 ^ k
theorem pw_bd (k : Nat) (h : k < 32) : 1 ≤ pw k ∧ pw k ≤ 2147483648 := by
  have h1 : (2 : Nat) ^ k ≤ 2 ^ 31 := Nat.pow_le_pow_right (by omega) (by omega)
  have h2 : 0 < (2 : Nat) ^ k := Nat.pow_pos (by omega)
  unfold pw
  omega
theorem pw_succ (k : Nat) : pw (k + 1) = pw k * 2 := Nat.pow_succ ..
/-- Bit k of a number. -/
def bt (a k : Nat) : Nat := a / pw k % 2
theorem bt_le (a k : Nat) : bt a k ≤ 1 := by unfold bt; omega
/-- Of each of the first k bits of two numbers what a row of four says, as a number. -/
def sumG (g : Nat → Nat) (a b : Nat) : Nat → Nat
  | 0 => 0
  | k + 1 => sumG g a b k + g (2 * bt a k + bt b k) * pw k
theorem sumG_lt (g : Nat → Nat) (hg : ∀ j, j < 4 → g j ≤ 1) (a b : Nat) : ∀ k, sumG g a b k < pw k
  | 0 => by show 0 < 2 ^ 0; decide
  | k + 1 => by
    have ih := sumG_lt g hg a b k
    have ha := bt_le a k
    have hb := bt_le b k
    have h := hg (2 * bt a k + bt b k) (by omega)
    have hm : g (2 * bt a k + bt b k) * pw k ≤ 1 * pw k := Nat.mul_le_mul_right _ h
    rw [pw_succ]
    unfold sumG
    omega
end Wd
namespace Go.Proofs.YtbekkdhlfkongaaGreatDoor
open Go.ChangeShapes Go.WideShapes Go.ChangeAt Go.RowKit

theorem refNeg_any (a : Int) (w : World) (h0 : 0 ≤ a) (h1 : a ≤ 4294967295) :
    Calls Tryz.prog 91 #[.int .u32 a] w fun e w' => e = .returned (.int .u32 ((-a) % 4294967296)) ∧ w = w' := by
  have he : (4294967296 - a) % 4294967296 = (-a) % 4294967296 := by omega
  go_enter Tryz.func91, Tryz.ntmps91
  go_wp2
  go_ret
  exact ⟨rfl, rfl⟩

theorem power_any (n : Nat) (hn : n ≤ 4294967295) (w : World) :
    Calls Tryz.prog 125 #[.int .u32 n] w fun e w' => e = .returned (.int .u64 (Wd.pw (n % 32))) ∧ w = w' := by
  go_enter Tryz.func125, Tryz.ntmps125
  go_wp2
  go_loop [3, 4] (fun p i => ∃ k : Nat, k ≤ n % 32 ∧ i = .int .u32 k ∧ p = .int .u64 (Wd.pw k)) (fun _ i => 32 - (intOf i).toNat)
  case atStart => exact ⟨0, by omega, rfl, rfl⟩
  case round =>
    obtain ⟨k, hk, rfl, rfl⟩ := hrel
    have hp := Wd.pw_bd k (by omega)
    by_cases hlt : k < n % 32
    · have hs := Lib.hid (Wd.pw_succ k)
      go_wp2
      go_round
      case rel => exact ⟨k + 1, by omega, by go_num, by rw [hs.out]; go_num⟩
      case measure => simp [intOf]; omega
    · have hk2 : k = n % 32 := by omega
      have H := Lib.hid hk2
      clear hk2
      go_wp2
      go_ret
      exact ⟨by rw [← H.out]; rfl, rfl⟩

theorem bit_any (a k : Nat) (ha : a ≤ 4294967295) (hk : k < 32) (w : World) :
    Calls Tryz.prog 150 #[.int .u32 a, .int .u32 k] w fun e w' => e = .returned (.int .u32 (Wd.bt a k)) ∧ w = w' := by
  have hp := Wd.pw_bd k hk
  have hr : k % 32 = k := Nat.mod_eq_of_lt hk
  have hc := power_any k (by omega)
  rw [hr] at hc
  have HC := Lib.hid hc
  clear hc hr
  have hb : (a : Int) / (Wd.pw k : Int) % 2 = (Wd.bt a k : Int) := by unfold Wd.bt; simp
  have hble := Wd.bt_le a k
  have hq0 : 0 ≤ (a : Int) / (Wd.pw k : Int) := Int.ediv_nonneg (by omega) (by omega)
  have hq1 : (a : Int) / (Wd.pw k : Int) ≤ 4294967295 := Int.le_trans (Int.ediv_le_self _ (by omega)) (by omega)
  have h1 : (1 : Int) ≤ (Wd.pw k : Int) := by omega
  have h0 : ((Wd.pw k : Int) == 0) = false := by simp; omega
  go_enter Tryz.func150, Tryz.ntmps150
  go_wp2_with fail
  refine (HC.out _).mono ?_
  rintro e w' ⟨rfl, rfl⟩
  go_wp2_with fail
  go_ret
  exact ⟨rfl, rfl⟩

theorem bitq (a k : Nat) (ha : a ≤ 4294967295) (hk : k < 32) (w : World) :
    Calls Tryz.prog 150 #[.int .u32 a, .int .u32 k] w fun e w' => e = .returned (.int .u32 (Wd.bt a k)) ∧ w' = w :=
  (bit_any a k ha hk w).mono fun _ _ h => ⟨h.1, h.2.symm⟩

set_option maxHeartbeats 1000000 in
theorem bits_any (g : Nat → Nat) (hg : ∀ j, j < 4 → g j ≤ 1) (a b : Nat) (ha : a ≤ 4294967295) (hb : b ≤ 4294967295) (q : Nat) (w : World)
    (hc : ∀ j, j < 4 → w.cell? ⟨q, j, none⟩ = some (.int .u32 (g j))) :
    Calls Tryz.prog 124 #[.int .u32 a, .int .u32 b, .slice (some ⟨q, 0, none⟩) 4 4] w fun e w' => e = .returned (.int .u32 (Wd.sumG g a b 32)) ∧ ∃ n, w' = w.drewN n := by
  have HC := Lib.hid hc
  have HG := Lib.hid hg
  clear hc hg
  go_enter Tryz.func124, Tryz.ntmps124
  go_wp2
  go_loopw [7, 8] (fun o i w' => ∃ k n : Nat, k ≤ 32 ∧ i = .int .u32 k ∧ o = .int .u32 (Wd.sumG g a b k) ∧ w' = w.drewN n) (fun _ i _ => 32 - (intOf i).toNat)
  case atStart => exact ⟨0, 0, by omega, rfl, rfl, rfl⟩
  case round =>
    obtain ⟨k, n, hk, rfl, rfl, rfl⟩ := hrel
    by_cases hlt : k < 32
    · have hp := Wd.pw_bd k hlt
      have hxa := Wd.bt_le a k
      have hxb := Wd.bt_le b k
      have hs := Wd.sumG_lt g HG.out a b k
      have hgj := HG.out (2 * Wd.bt a k + Wd.bt b k) (by omega)
      have hcell := HC.out (2 * Wd.bt a k + Wd.bt b k) (by omega)
      have hgp : g (2 * Wd.bt a k + Wd.bt b k) * Wd.pw k ≤ 1 * Wd.pw k := Nat.mul_le_mul_right _ hgj
      have hsum : Wd.sumG g a b (k + 1) = Wd.sumG g a b k + g (2 * Wd.bt a k + Wd.bt b k) * Wd.pw k := rfl
      have hcw : (w.drewN n).cell? ⟨q, 2 * Wd.bt a k + Wd.bt b k, none⟩ = some (.int .u32 (g (2 * Wd.bt a k + Wd.bt b k))) := by rw [World.cell?_drewN]; exact hcell
      have HS := Lib.hid hsum
      clear hcell hsum
      generalize hW : w.drewN n = W at *
      have HW := Lib.hid hW
      clear hW
      generalize hz : g (2 * Wd.bt a k + Wd.bt b k) = z at *
      generalize ho : Wd.sumG g a b k = o at *
      generalize hP : Wd.pw k = P at *
      have hzP : ((z * P : Nat) : Int) = (z : Int) * (P : Int) := by simp
      have i1 : (z : Int) * (P : Int) ≤ 2147483648 := by omega
      have i0 : 0 ≤ (z : Int) * (P : Int) := by omega
      have i2 : (o : Int) < P := by omega
      have cp : ∀ W, Calls Tryz.prog 125 #[.int .u32 k] W fun e w' => e = .returned (.int .u64 P) ∧ w' = W := fun W => (power_any k (by omega) W).mono fun _ _ h => ⟨by rw [h.1, Nat.mod_eq_of_lt hlt, hP], h.2.symm⟩
      have CP := Lib.hid cp
      have HZ := Lib.hid hzP
      clear cp hz ho hP hzP hgj hgp hs
      go_wp2
      have w1 : IntKind.u32.wrap (2 * (Wd.bt a k : Int)) = 2 * (Wd.bt a k : Int) := IntWalk.u32_in _ (by omega)
      have w2 : IntKind.u32.wrap (2 * (Wd.bt a k : Int) + (Wd.bt b k : Int)) = 2 * (Wd.bt a k : Int) + (Wd.bt b k : Int) := IntWalk.u32_in _ (by omega)
      have w3 : IntKind.i64.wrap (2 * (Wd.bt a k : Int) + (Wd.bt b k : Int)) = 2 * (Wd.bt a k : Int) + (Wd.bt b k : Int) := IntWalk.i64_in _ (by omega)
      have w4 : IntKind.u32.wrap (P : Int) = (P : Int) := IntWalk.u32_in _ (by omega)
      have w5 : IntKind.u32.wrap ((z : Int) * (P : Int)) = (z : Int) * (P : Int) := IntWalk.u32_in _ (by omega)
      have w6 : IntKind.u32.wrap ((o : Int) + (z : Int) * (P : Int)) = (o : Int) + (z : Int) * (P : Int) := IntWalk.u32_in _ (by omega)
      have w7 : (2 * (Wd.bt a k : Int) + (Wd.bt b k : Int)).toNat = 2 * Wd.bt a k + Wd.bt b k := by omega
      have w8 : 0 ≤ 2 * (Wd.bt a k : Int) + (Wd.bt b k : Int) := by omega
      have w9 : 2 * (Wd.bt a k : Int) + (Wd.bt b k : Int) < 4 := by omega
      go_quiet ((first
        | (go_at_call 150; exact Calls.quiet_of_same (bitq _ _ (by omega) (by omega) _))
        | (go_at_call 125; exact Calls.quiet_of_same (CP.out _))))
      clear w1 w2 w3 w4 w5 w6 w7 w8 w9
      go_wp2
      refine ⟨⟨k + 1, n + nq, by omega, by go_num, ?_, ?_⟩, by simp [intOf]; omega⟩
      · rw [HS.out, ← HZ.out]; go_num
      · rw [← HW.out, World.drewN_drewN]
    · obtain rfl : k = 32 := by omega
      go_wp2
      go_ret
      exact ⟨rfl, n, rfl⟩

theorem retT {v v' : Int} {c c' : Bool} (h : v = v') (hc : c = c') : Ending.returned (.tuple #[.int .u32 v, .bool c]) = .returned (.tuple #[.int .u32 v', .bool c']) := by rw [h, hc]

/-- What the three rows of four say. -/
def gOr (j : Nat) : Nat := if j = 0 then 0 else 1
def gAnd (j : Nat) : Nat := if j = 3 then 1 else 0
def gXor (j : Nat) : Nat := if j = 1 ∨ j = 2 then 1 else 0
end Go.Proofs.YtbekkdhlfkongaaGreatDoor
namespace Wd
open Go
theorem bt_eq (x k : Nat) : bt x k = (x.testBit k).toNat := by
  unfold bt pw
  rw [Nat.testBit_eq_decide_div_mod_eq]
  have := Nat.mod_lt (x / 2 ^ k) (show 0 < 2 by omega)
  by_cases h : x / 2 ^ k % 2 = 1
  · simp [h]
  · simp [h]; omega
/-- A number is the sum of its bits. -/
theorem sum_bits (x : Nat) : ∀ k, sumG (fun j => if j = 3 then 1 else 0) x x k = x % pw k
  | 0 => by simp [sumG, pw]; omega
  | k + 1 => by
    unfold sumG
    rw [sum_bits x k]
    have h := Nat.mod_pow_succ (x := x) (b := 2) (k := k)
    unfold bt pw at *
    rw [h]
    have := Nat.mod_lt (x / 2 ^ k) (show 0 < 2 by omega)
    by_cases e : x / 2 ^ k % 2 = 1
    · simp [e]
    · have e0 : x / 2 ^ k % 2 = 0 := by omega
      simp [e0]
/-- If each bit of z is what the row says of those of a and b, the sum is z. -/
theorem sumG_eq (g : Nat → Nat) (a b z : Nat) (hz : z < 4294967296) (h : ∀ k, g (2 * bt a k + bt b k) = bt z k) : sumG g a b 32 = z := by
  have e : ∀ k, sumG g a b k = sumG (fun j => if j = 3 then 1 else 0) z z k := by
    intro k
    induction k with
    | zero => rfl
    | succ k ih =>
      unfold sumG
      rw [ih, h k]
      have := bt_le z k
      by_cases e1 : bt z k = 1
      · simp [e1]
      · have e0 : bt z k = 0 := by omega
        simp [e0]
  rw [e, sum_bits]
  exact Nat.mod_eq_of_lt hz
end Wd
namespace Go.Proofs.YtbekkdhlfkongaaGreatDoor
theorem sum_or (a b : Nat) (ha : a ≤ 4294967295) (hb : b ≤ 4294967295) : ((Wd.sumG gOr a b 32 : Nat) : Int) = bits .or .u32 a b := by
  rw [u32_or_nat a b (by omega) (by omega)]
  congr 1
  refine Wd.sumG_eq _ _ _ _ (Nat.or_lt_two_pow (n := 32) (by omega) (by omega)) fun k => ?_
  rw [Wd.bt_eq, Wd.bt_eq, Wd.bt_eq, Nat.testBit_or]
  cases a.testBit k <;> cases b.testBit k <;> rfl
theorem sum_and (a b : Nat) (ha : a ≤ 4294967295) (hb : b ≤ 4294967295) : ((Wd.sumG gAnd a b 32 : Nat) : Int) = bits .and .u32 a b := by
  rw [u32_and_nat a b (by omega) (by omega)]
  congr 1
  refine Wd.sumG_eq _ _ _ _ (Nat.and_lt_two_pow (n := 32) _ (by omega)) fun k => ?_
  rw [Wd.bt_eq, Wd.bt_eq, Wd.bt_eq, Nat.testBit_and]
  cases a.testBit k <;> cases b.testBit k <;> rfl
theorem sum_xor (a b : Nat) (ha : a ≤ 4294967295) (hb : b ≤ 4294967295) : ((Wd.sumG gXor a b 32 : Nat) : Int) = bits .xor .u32 a b := by
  rw [u32_xor_nat a b (by omega) (by omega)]
  congr 1
  refine Wd.sumG_eq _ _ _ _ (Nat.xor_lt_two_pow (n := 32) (by omega) (by omega)) fun k => ?_
  rw [Wd.bt_eq, Wd.bt_eq, Wd.bt_eq, Nat.testBit_xor]
  cases a.testBit k <;> cases b.testBit k <;> rfl
end Go.Proofs.YtbekkdhlfkongaaGreatDoor

/-
  The document's Do (package hurdleref01), at any kind: the same as the plain function; nothing that was there is changed.
-/
namespace Go.Proofs.YtbekkdhlfkongaaGreatDoor
open Go.ChangeShapes Go.WideShapes Go.ChangeAt Go.RowKit

set_option maxHeartbeats 2000000 in
theorem refDo_nat (k : Int) (a b : Nat) (w : World) (h1 : a ≤ 4294967295) (h3 : b ≤ 4294967295) :
    Calls Tryz.prog 88 #[.int .i64 k, .int .u32 a, .int .u32 b] w fun e w' => e = .returned (.tuple #[.int .u32 (Wd.doV k a b), .bool (Wd.doB k b)]) ∧ Below w.heap.size w w' := by
  by_cases c4 : k = 4
  · subst c4
    go_enter Tryz.func88, Tryz.ntmps88
    go_wp2
    go_ret2
    exact ⟨retT rfl rfl, (Below.refl _ _)⟩
  by_cases c20 : k = 20
  · subst c20
    clear c4
    go_enter Tryz.func88, Tryz.ntmps88
    go_wp2
    go_ret2
    exact ⟨retT (by rw [Wd.doV_sub]; omega) rfl, (Below.refl _ _)⟩
  by_cases c36 : k = 36
  · subst c36
    clear c4 c20
    have hm : (((a * b : Nat)) : Int) = (a : Int) * (b : Int) := by simp
    have hm2 : a * b ≤ 4294967295 * 4294967295 := Nat.mul_le_mul h1 h3
    have q0 : 0 ≤ (a : Int) * (b : Int) := by omega
    have q1 : (a : Int) * (b : Int) ≤ 18446744065119617025 := by omega
    clear hm hm2
    go_enter Tryz.func88, Tryz.ntmps88
    go_wp2
    go_ret2
    exact ⟨retT rfl rfl, (Below.refl _ _)⟩
  by_cases c52 : k = 52
  · subst c52
    clear c4 c20 c36
    by_cases hb : b = 0
    · subst hb
      go_enter Tryz.func88, Tryz.ntmps88
      go_wp2
      go_ret2
      exact ⟨retT rfl rfl, (Below.refl _ _)⟩
    · have hb1 : (1 : Int) ≤ (b : Int) := by omega
      have hbz : ((b : Int) == 0) = false := by simp; omega
      have hbd : (decide ((b : Int) = 0)) = false := by simp; omega
      have HB := Lib.hid hbd
      have hv := Lib.hid (Wd.doV_div a b (by omega))
      have q0 : 0 ≤ (a : Int) / (b : Int) := Int.ediv_nonneg (by omega) (by omega)
      have q1 : (a : Int) / (b : Int) ≤ 4294967295 := Int.le_trans (Int.ediv_le_self _ (by omega)) (by omega)
      clear hb hbd
      go_enter Tryz.func88, Tryz.ntmps88
      go_wp2
      go_ret2
      exact ⟨retT hv.out.symm (by unfold Wd.doB; rw [HB.out]; rfl), (Below.refl _ _)⟩
  by_cases c68 : k = 68
  · subst c68
    clear c4 c20 c36 c52
    have hs := sum_or a b h1 h3
    have HS := Lib.hid hs
    clear hs
    go_enter Tryz.func88, Tryz.ntmps88
    go_wp2_with fail
    refine (bits_any gOr (fun j hj => by unfold gOr; split <;> omega) a b h1 h3 _ _ ?_).mono ?_
    · intro j hj
      rcases j with _ | _ | _ | _ | j
      · simp [gOr]
      · simp [gOr]
      · simp [gOr]
      · simp [gOr]
      · omega
    rintro e w' ⟨rfl, nq, rfl⟩
    go_wp2_with fail
    go_ret2
    exact ⟨retT HS.out rfl, ((Below.refl _ _).alloc (Nat.le_refl _) _).trans ⟨rfl, rfl, rfl, Nat.le_refl _, fun _ _ => rfl⟩⟩
  by_cases c84 : k = 84
  · subst c84
    clear c4 c20 c36 c52 c68
    have hs := sum_and a b h1 h3
    have HS := Lib.hid hs
    clear hs
    go_enter Tryz.func88, Tryz.ntmps88
    go_wp2_with fail
    refine (bits_any gAnd (fun j hj => by unfold gAnd; split <;> omega) a b h1 h3 _ _ ?_).mono ?_
    · intro j hj
      rcases j with _ | _ | _ | _ | j
      · simp [gAnd]
      · simp [gAnd]
      · simp [gAnd]
      · simp [gAnd]
      · omega
    rintro e w' ⟨rfl, nq, rfl⟩
    go_wp2_with fail
    go_ret2
    exact ⟨retT HS.out rfl, ((Below.refl _ _).alloc (Nat.le_refl _) _).trans ⟨rfl, rfl, rfl, Nat.le_refl _, fun _ _ => rfl⟩⟩
  by_cases c100 : k = 100
  · subst c100
    clear c4 c20 c36 c52 c68 c84
    have hp := Wd.pw_bd (b % 32) (by omega)
    have he : Wd.doV 100 a b = (a : Int) * (Wd.pw (b % 32) : Int) % 4294967296 := by
      rw [Wd.doV_lsh]
      have e1 : ((b : Int) % 32).toNat = b % 32 := by omega
      rw [e1]
      unfold Wd.pw
      simp
    have HE := Lib.hid he
    clear he
    have h1p : (1 : Int) ≤ (Wd.pw (b % 32) : Int) := by omega
    have hz : ((Wd.pw (b % 32) : Int) == 0) = false := by simp; omega
    have hm : (((a * Wd.pw (b % 32) : Nat)) : Int) = (a : Int) * (Wd.pw (b % 32) : Int) := by simp
    have hm2 : a * Wd.pw (b % 32) ≤ 4294967295 * 2147483648 := Nat.mul_le_mul h1 hp.2
    have q0 : 0 ≤ (a : Int) * (Wd.pw (b % 32) : Int) := by omega
    have q1 : (a : Int) * (Wd.pw (b % 32) : Int) ≤ 9223372034707292160 := by omega
    clear hm hm2
    go_enter Tryz.func88, Tryz.ntmps88
    go_wp2_with fail
    refine (power_any b h3 _).mono ?_
    rintro e w' ⟨rfl, rfl⟩
    go_wp2_with fail
    go_ret2
    exact ⟨retT HE.out.symm rfl, (Below.refl _ _)⟩
  by_cases c116 : k = 116
  · subst c116
    clear c4 c20 c36 c52 c68 c84 c100
    have hp := Wd.pw_bd (b % 32) (by omega)
    have he : Wd.doV 116 a b = (a : Int) / (Wd.pw (b % 32) : Int) := by
      rw [Wd.doV_rsh]
      have e1 : ((b : Int) % 32).toNat = b % 32 := by omega
      rw [e1]
      unfold Wd.pw
      simp
    have HE := Lib.hid he
    clear he
    have h1p : (1 : Int) ≤ (Wd.pw (b % 32) : Int) := by omega
    have hz : ((Wd.pw (b % 32) : Int) == 0) = false := by simp; omega
    have q0 : 0 ≤ (a : Int) / (Wd.pw (b % 32) : Int) := Int.ediv_nonneg (by omega) (by omega)
    have q1 : (a : Int) / (Wd.pw (b % 32) : Int) ≤ 4294967295 := Int.le_trans (Int.ediv_le_self _ (by omega)) (by omega)
    go_enter Tryz.func88, Tryz.ntmps88
    go_wp2_with fail
    refine (power_any b h3 _).mono ?_
    rintro e w' ⟨rfl, rfl⟩
    go_wp2_with fail
    go_ret2
    exact ⟨retT HE.out.symm rfl, (Below.refl _ _)⟩
  by_cases c164 : k = 164
  · subst c164
    clear c4 c20 c36 c52 c68 c84 c100 c116
    have hs := sum_xor a b h1 h3
    have HS := Lib.hid hs
    clear hs
    go_enter Tryz.func88, Tryz.ntmps88
    go_wp2_with fail
    refine (bits_any gXor (fun j hj => by unfold gXor; split <;> omega) a b h1 h3 _ _ ?_).mono ?_
    · intro j hj
      rcases j with _ | _ | _ | _ | j
      · simp [gXor]
      · simp [gXor]
      · simp [gXor]
      · simp [gXor]
      · omega
    rintro e w' ⟨rfl, nq, rfl⟩
    go_wp2_with fail
    go_ret2
    exact ⟨retT HS.out rfl, ((Below.refl _ _).alloc (Nat.le_refl _) _).trans ⟨rfl, rfl, rfl, Nat.le_refl _, fun _ _ => rfl⟩⟩
  have hv : Wd.doV k a b = 0 := by unfold Wd.doV; simp only [if_neg c4, if_neg c20, if_neg c36, if_neg c52, if_neg c68, if_neg c84, if_neg c100, if_neg c116, if_neg c164]
  have hc : Wd.doB k b = false := by unfold Wd.doB; simp [c4, c20, c36, c52, c68, c84, c100, c116, c164]
  have Hv := Lib.hid hv
  have Hc := Lib.hid hc
  have b4 : (k == 4) = false := by simpa using c4
  have b20 : (k == 20) = false := by simpa using c20
  have b36 : (k == 36) = false := by simpa using c36
  have b52 : (k == 52) = false := by simpa using c52
  have b68 : (k == 68) = false := by simpa using c68
  have b84 : (k == 84) = false := by simpa using c84
  have b100 : (k == 100) = false := by simpa using c100
  have b116 : (k == 116) = false := by simpa using c116
  have b164 : (k == 164) = false := by simpa using c164
  clear hv hc c4 c20 c36 c52 c68 c84 c100 c116 c164
  go_enter Tryz.func88, Tryz.ntmps88
  go_wp2
  go_ret2
  exact ⟨retT Hv.out.symm Hc.out.symm, (Below.refl _ _)⟩
theorem refDo_any (k a b : Int) (w : World) (h0 : 0 ≤ a) (h1 : a ≤ 4294967295) (h2 : 0 ≤ b) (h3 : b ≤ 4294967295) :
    Calls Tryz.prog 88 #[.int .i64 k, .int .u32 a, .int .u32 b] w fun e w' => e = .returned (.tuple #[.int .u32 (Wd.doV k a b), .bool (Wd.doB k b)]) ∧ Below w.heap.size w w' := by
  obtain ⟨m, rfl⟩ := Int.eq_ofNat_of_zero_le h0
  obtain ⟨n, rfl⟩ := Int.eq_ofNat_of_zero_le h2
  exact refDo_nat k m n w (by omega) (by omega)
end Go.Proofs.YtbekkdhlfkongaaGreatDoor
