/-
  The map of the conditions: what conditions() makes, and what is looked up in it.
-/
import Derived.Test.YtmbegncnbjafdaaDoorKClo
import Derived.Test.YtmbegncnbjafdaaDoorAluP
namespace Go
/-- An entry of a map's literal, at the operation (as 'wpList_mapUpdate_own' has it of an assignment). -/
theorem wpList_insert_own {H : Type} {P : Program} (w : World) {ops : Array Oper} {rest : List Oper} {o : Oper} {a : Act} {Q : Exit → Act → World → Prop}
    (hg : o.guard = none) (m x v : Operand) (t : TypeId) (hop : o.op = Op.insert t m x v)
    (k e : TypeId) (K : Maps.Keyed P k) (ht : P.underlying t = some (.map k e)) (R : Value → Option (DataW H × List MemPlace)) (b n : Nat) (D : DataW H)
    (hm : a.eval m = .map (some b)) (hown : w.ownsMap P k R b n D) (hn : n < maxLen) (key val : Value) (kl : Lit) (hx : a.eval x = key) (hv : a.eval v = val) (hkey : keyOf P k key = some kl)
    (d : DataW H) (ps : List MemPlace) (hval : R val = some (d, ps))
    (hK : ∀ w', w'.ownsMap P k R b (n + 1) (D.put kl d) → w.grownBy w' (some b) → wpList P ops Q rest (a.put o.dst undef) w') :
    wpList P ops Q (o :: rest) a w := by
  refine wpList_plain hg fun K' hK' => ?_
  obtain ⟨w', hrun, r1, r2⟩ := hown.update K ht hn hkey hval
  unfold Oper.wp
  simp [execOp, hop, hm, hx, hv, hrun, Result.andThen]
  exact hK' _ _ (hK w' r1 r2)
end Go
namespace Go.Proofs.YtmbegncnbjafdaaDoor
open Go.ChangeShapes Go.WideShapes Go.ChangeAt Go.RowKit
set_option maxRecDepth 20000

/-- The elements of the map read as themselves. -/
def fnR : Value → Option (DataW Value × List MemPlace) := fun v => some (.held v, [])
theorem keyI : Go.Maps.Keyed Tryd.prog 3 := Go.Maps.int_keyed Tryd.underlying3
def keyL (a : Int) : Lit := .int .i64 a
theorem key_lit (a : Int) : WideAt.IsKeyLit (keyL a) := by unfold keyL; exact True.intro
theorem keyOfI {a : Int} (h : -9223372036854775808 ≤ a ∧ a ≤ 9223372036854775807) : keyOf Tryd.prog 3 (.int .i64 a) = some (keyL a) := Go.Maps.keyOf_int_mk Tryd.underlying3 (WalkArith.wf_i64 h)
theorem isMap_put {D : DataW Value} (h : Maps.IsMap D) (a : Int) (v : Value) : Maps.IsMap (D.put (keyL a) (.held v)) := by
  obtain ⟨es, rfl⟩ := h
  exact ⟨_, rfl⟩
theorem has_put {D : DataW Value} (h : Maps.IsMap D) (a op : Int) (v : Value) : Maps.has (D.put (keyL a) (.held v)) (keyL op) = (decide (op = a) || Maps.has D (keyL op)) := by
  by_cases e : op = a
  · subst e
    rw [Maps.has_put_same h (key_lit _)]
    simp
  · rw [Maps.has_put_other (by unfold keyL; intro h; cases h; exact e rfl)]
    simp [e]
theorem at_put {D : DataW Value} (h : Maps.IsMap D) (a op : Int) (v : Value) (z : DataW Value) : (D.put (keyL a) (.held v)).atKey (keyL op) z = if op = a then .held v else D.atKey (keyL op) z := by
  by_cases e : op = a
  · subst e
    rw [Maps.atKey_put_same h (key_lit _)]
    simp
  · rw [Maps.atKey_put_other (by unfold keyL; intro h; cases h; exact e rfl)]
    simp [e]
def putAll : List (Int × Value) → DataW Value → DataW Value
  | [], D => D
  | p :: es, D => putAll es (D.put (keyL p.1) (.held p.2))
/-- What is looked up: the last one of a key. -/
def lastOf : List (Int × Value) → Int → Option Value → Option Value
  | [], _, o => o
  | p :: es, op, o => lastOf es op (if op = p.1 then some p.2 else o)
theorem has_all : ∀ (es : List (Int × Value)) (D : DataW Value) (op : Int) (o : Option Value), Maps.IsMap D → Maps.has D (keyL op) = o.isSome → Maps.has (putAll es D) (keyL op) = (lastOf es op o).isSome
  | [], _, _, _, _, h => h
  | p :: es, D, op, o, hm, h => by
    refine has_all es _ op _ (isMap_put hm _ _) ?_
    rw [has_put hm, h]
    by_cases e : op = p.1 <;> simp [e]
theorem at_all : ∀ (es : List (Int × Value)) (D : DataW Value) (op : Int) (o : Option Value) (z : Value), Maps.IsMap D → D.atKey (keyL op) (.held z) = .held (o.getD z) → (putAll es D).atKey (keyL op) (.held z) = .held ((lastOf es op o).getD z)
  | [], _, _, _, _, _, h => h
  | p :: es, D, op, o, z, hm, h => by
    refine at_all es _ op _ z (isMap_put hm _ _) ?_
    rw [at_put hm, h]
    by_cases e : op = p.1 <;> simp [e]

/-- The number of an operation's condition; 0: it has none. -/
def kindOf (op : Int) : Nat :=
  if op = 32 then 1 else if op = 2 ∨ op = 3 ∨ op = 96 ∨ op = 97 then 2 else if op = 52 then 3 else if op = 100 ∨ op = 116 then 4 else if op = 5 then 5
  else if op = 21 ∨ op = 37 ∨ op = 53 ∨ op = 69 ∨ op = 29 ∨ op = 45 ∨ op = 61 ∨ op = 77 then 6 else 0
def rowsM (s : Nat → Value) : List (Int × Value) :=
  [(32, s 1), (2, s 2), (3, s 2), (96, s 2), (97, s 2), (52, s 3), (100, s 4), (116, s 4), (5, s 5), (21, s 6), (37, s 6), (53, s 6), (69, s 6), (29, s 6), (45, s 6), (61, s 6), (77, s 6)]
theorem last_rows (s : Nat → Value) (op : Int) : lastOf (rowsM s) op none = if kindOf op = 0 then none else some (s (kindOf op)) := by
  unfold kindOf
  by_cases h1 : op = 32
  · subst h1; rfl
  by_cases h2 : op = 2 ∨ op = 3 ∨ op = 96 ∨ op = 97
  · rcases h2 with h2 | h2 | h2 | h2 <;> subst h2 <;> rfl
  by_cases h3 : op = 52
  · subst h3; rfl
  by_cases h4 : op = 100 ∨ op = 116
  · rcases h4 with h2 | h2 <;> subst h2 <;> rfl
  by_cases h5 : op = 5
  · subst h5; rfl
  by_cases h6 : op = 21 ∨ op = 37 ∨ op = 53 ∨ op = 69 ∨ op = 29 ∨ op = 45 ∨ op = 61 ∨ op = 77
  · rcases h6 with h2 | h2 | h2 | h2 | h2 | h2 | h2 | h2 <;> subst h2 <;> rfl
  simp only [not_or] at h2 h4 h6
  simp [h1, h2, h3, h4, h5, h6, lastOf, rowsM]
def mapD (s : Nat → Value) : DataW Value := putAll (rowsM s) (.map [])
theorem has_mapD (s : Nat → Value) (op : Int) : Maps.has (mapD s) (keyL op) = (kindOf op != 0) := by
  unfold mapD
  rw [has_all (rowsM s) (.map []) op none Maps.isMap_empty rfl, last_rows]
  by_cases h : kindOf op = 0 <;> simp [h]
theorem at_mapD (s : Nat → Value) (op : Int) (z : Value) : (mapD s).atKey (keyL op) (.held z) = .held (if kindOf op = 0 then z else s (kindOf op)) := by
  unfold mapD
  rw [at_all (rowsM s) (.map []) op none z Maps.isMap_empty rfl, last_rows]
  by_cases h : kindOf op = 0 <;> simp [h]
theorem kindOf_le (op : Int) : kindOf op ≤ 6 := by
  unfold kindOf
  repeat' split
  all_goals omega

/-- The map of the conditions, as it lies in a world. -/
def MapAt (w : World) (v : Value) : Prop := ∃ (b : Nat) (s : Nat → Value), v = .map (some b) ∧ w.ownsMap Tryd.prog 3 fnR b 17 (mapD s) ∧ ∀ c, 1 ≤ c → c ≤ 6 → CondAt w (s c) c
theorem own_map_below {w w' : World} {b n : Nat} {D : DataW Value} (h : w.ownsMap Tryd.prog 3 fnR b n D) (hb : Below w.heap.size w w') : w'.ownsMap Tryd.prog 3 fnR b n D := by
  obtain ⟨es, clock, hh, r⟩ := h
  exact ⟨es, clock, (hb.block b (lt_of_block hh)).trans hh, r⟩
theorem MapAt.below {w w' : World} {v : Value} (h : MapAt w v) (hb : Below w.heap.size w w') : MapAt w' v := by
  obtain ⟨b, s, rfl, h1, h2⟩ := h
  exact ⟨b, s, rfl, own_map_below h1 hb, fun c hc hc' => (h2 c hc hc').below hb⟩
theorem zeroC (w : World) : (zeroValue 115).run Tryd.prog w = .ok .nilFunc w := by kernel_rfl
/-- What is looked up. -/
theorem look_map {w : World} {b : Nat} {s : Nat → Value} (h : w.ownsMap Tryd.prog 3 fnR b 17 (mapD s)) (op : Int) (ho : -9223372036854775808 ≤ op ∧ op ≤ 9223372036854775807) :
    (Instr.lookup 98 (.map (some b)) (.int .i64 op) true).run Tryd.prog w = .ok (.tuple #[if kindOf op = 0 then .nilFunc else s (kindOf op), .bool (kindOf op != 0)]) w := by
  obtain ⟨v, ps, hr, hv⟩ := h.look_ok keyI Tryd.underlying98 (zeroC w) (zd := .held .nilFunc) (zp := []) rfl (keyOfI ho)
  rw [at_mapD] at hv
  rw [has_mapD] at hr
  unfold fnR at hv
  simp only [Option.some.injEq, Prod.mk.injEq, DataW.held.injEq] at hv
  rw [hr, hv.1]
end Go.Proofs.YtmbegncnbjafdaaDoor

/-
  What conditions() makes: the map of the conditions.
-/
namespace Go.Proofs.YtmbegncnbjafdaaDoor
open Go.ChangeShapes Go.WideShapes Go.ChangeAt Go.RowKit
set_option maxRecDepth 20000

/-- The map while it is filled. -/
def MK (w0 : World) (b n : Nat) (D : DataW Value) (w : World) : Prop := w.ownsMap Tryd.prog 3 fnR b n D ∧ Below w0.heap.size w0 w ∧ w0.heap.size ≤ b
theorem mk_new (w : World) : MK w w.heap.size 0 (.map []) (w.alloc (.map #[] 0)) :=
  ⟨World.ownsMap_made w Tryd.prog 3 fnR, ba _ (Below.refl _ _), Nat.le_refl _⟩
theorem wpList_ins (w : World) {ops : Array Oper} {rest : List Oper} {o : Oper} {a : Act} {Q : Exit → Act → World → Prop}
    (hg : o.guard = none) (m x v : Operand) (hop : o.op = Op.insert 98 m x v) {w0 : World} {b n : Nat} {D : DataW Value}
    (hm : a.eval m = .map (some b)) (h : MK w0 b n D w) (hn : n < 100) (k : Int) (hk : -9223372036854775808 ≤ k ∧ k ≤ 9223372036854775807) (hx : a.eval x = .int .i64 k) (val : Value) (hv : a.eval v = val)
    (hK : ∀ w', MK w0 b (n + 1) (D.put (keyL k) (.held val)) w' → wpList Tryd.prog ops Q rest (a.put o.dst undef) w') : wpList Tryd.prog ops Q (o :: rest) a w := by
  obtain ⟨h1, h2, h3⟩ := h
  refine wpList_insert_own w hg m x v _ hop _ _ keyI Tryd.underlying98 fnR b n D hm h1 (by unfold maxLen; omega) _ val _ hx hv (keyOfI hk) _ [] rfl ?_
  intro w' h1' hg'
  exact hK w' ⟨h1', h2.grown hg' h2.size (fun k hk => by cases hk; exact h3), h3⟩

def CondsEnd (w : World) (e : Ending) (w' : World) : Prop := ∃ v, e = .returned v ∧ MapAt w' v ∧ Below w.heap.size w w'
theorem conditions_any (w : World) : Calls Tryd.prog 63 #[] w (CondsEnd w) := by
  go_enter Tryd.func63, Tryd.ntmps63
  go_wp2_with fail
  refine (unless_any 1 _).mono ?_
  rintro e w1 ⟨v1, rfl, c1, hb1⟩
  have C1 := Lib.hid c1
  have B1 := Lib.hid hb1
  clear c1 hb1
  go_wp2_with fail
  refine (unless_any 2 _).mono ?_
  rintro e w2 ⟨v2, rfl, c2, hb2⟩
  have C2 := Lib.hid c2
  have B2 := Lib.hid (B1.out.trans (hb2.mono B1.out.size))
  have C1' := Lib.hid (C1.out.below hb2)
  clear c2 hb2 C1 B1
  go_wp2_with fail
  refine (unless_any 3 _).mono ?_
  rintro e w3 ⟨v3, rfl, c3, hb3⟩
  have C3 := Lib.hid c3
  have B3 := Lib.hid (B2.out.trans (hb3.mono B2.out.size))
  have C1 := Lib.hid (C1'.out.below hb3)
  have C2' := Lib.hid (C2.out.below hb3)
  clear c3 hb3 C1' C2 B2
  go_wp2_with fail
  refine (unless_any 4 _).mono ?_
  rintro e w4 ⟨v4, rfl, c4, hb4⟩
  have C4 := Lib.hid c4
  have B4 := Lib.hid (B3.out.trans (hb4.mono B3.out.size))
  have C1' := Lib.hid (C1.out.below hb4)
  have C2 := Lib.hid (C2'.out.below hb4)
  have C3' := Lib.hid (C3.out.below hb4)
  clear c4 hb4 C1 C2' C3 B3
  go_wp2_with fail
  refine (unless_any 5 _).mono ?_
  rintro e w5 ⟨v5, rfl, c5, hb5⟩
  have C5 := Lib.hid c5
  have B5 := Lib.hid (B4.out.trans (hb5.mono B4.out.size))
  have C1 := Lib.hid (C1'.out.below hb5)
  have C2' := Lib.hid (C2.out.below hb5)
  have C3 := Lib.hid (C3'.out.below hb5)
  have C4' := Lib.hid (C4.out.below hb5)
  clear c5 hb5 C1' C2 C3' C4 B4
  go_wp2_with fail
  refine (unless_any 6 _).mono ?_
  rintro e w6 ⟨v6, rfl, c6, hb6⟩
  have C6 := Lib.hid c6
  have B6 := Lib.hid (B5.out.trans (hb6.mono B5.out.size))
  have C1' := Lib.hid (C1.out.below hb6)
  have C2 := Lib.hid (C2'.out.below hb6)
  have C3' := Lib.hid (C3.out.below hb6)
  have C4 := Lib.hid (C4'.out.below hb6)
  have C5' := Lib.hid (C5.out.below hb6)
  clear c6 hb6 C1 C2' C3 C4' C5 B5
  have hend : ∀ w', MK w6 w6.heap.size 17 (mapD fun c => match c with | 1 => v1 | 2 => v2 | 3 => v3 | 4 => v4 | 5 => v5 | _ => v6) w' → CondsEnd w (.returned (.map (some w6.heap.size))) w' := by
    rintro w' ⟨h1, h2, h3⟩
    refine ⟨_, rfl, ⟨_, _, rfl, h1, fun c hc hc' => ?_⟩, B6.out.trans (h2.mono B6.out.size)⟩
    have h : c = 1 ∨ c = 2 ∨ c = 3 ∨ c = 4 ∨ c = 5 ∨ c = 6 := by omega
    rcases h with rfl | rfl | rfl | rfl | rfl | rfl
    · exact C1'.out.below h2
    · exact C2.out.below h2
    · exact C3'.out.below h2
    · exact C4.out.below h2
    · exact C5'.out.below h2
    · exact C6.out.below h2
  have hmm := @run_makeMap Tryd.prog
  have M0 := mk_new w6
  go_wp2_with (first | (refine wpList_ins _ rfl _ _ _ rfl rfl (by assumption) (by omega) _ (by omega) rfl _ rfl ?_; intro w' h') | go_in)
  go_ret
  exact hend _ (by assumption)
end Go.Proofs.YtmbegncnbjafdaaDoor

/-
  The error of one instruction, by the condition of its operation; and what check.fault answers.
-/
namespace Go.Proofs.YtmbegncnbjafdaaDoor
open Go.ChangeShapes Go.WideShapes Go.ChangeAt Go.RowKit
set_option maxRecDepth 20000

theorem branch_rows : ∀ i, i < 39 → isBranch (Ip.refOps.getD i 0) = decide (kindOf (Ip.refOps.getD i 0) = 6) := by decide
theorem kind6_some {op : Int} (h : kindOf op = 6) : (Ip.byOp op).isSome = true := by
  have h' : op = 21 ∨ op = 37 ∨ op = 53 ∨ op = 69 ∨ op = 29 ∨ op = 45 ∨ op = 61 ∨ op = 77 := by
    unfold kindOf at h
    repeat' split at h
    all_goals first | assumption | (exact absurd h (by decide))
  rcases h' with rfl | rfl | rfl | rfl | rfl | rfl | rfl | rfl <;> decide
theorem branch_kind (op : Int) : isBranch op = decide (kindOf op = 6) := by
  rcases Ip.plc_cases op with ⟨i, hi, _, rfl, _, _⟩ | ⟨_, hb⟩
  · exact branch_rows i hi
  · unfold isBranch
    rw [hb]
    cases h : decide (kindOf op = 6)
    · rfl
    · have := kind6_some (of_decide_eq_true h)
      rw [hb] at this
      cases this
theorem tmod4 {k : Int} (hk : 0 ≤ k) : (k.tmod 4 == 0 && decide (k < 64)) = !(k % 4 != 0 || decide (60 < k)) := by
  rw [Int.tmod_eq_emod_of_nonneg hk]
  by_cases h : k % 4 = 0
  · by_cases h2 : k < 64
    · have : ¬ 60 < k := by omega
      simp [h, h2, this]
    · have : 60 < k := by omega
      simp [h, h2, this]
  · have e1 : (k % 4 == 0) = false := by simpa using h
    have e2 : (k % 4 != 0) = true := by simpa using h
    rw [e1, e2]
    rfl
theorem one_kind (x : X4) (n : Int) (hk : 0 ≤ x.k) : oneE x n = if x.right = false then 1 else if kindOf x.op = 0 then 0 else if holdsB (kindOf x.op) x.jt x.jf x.k n = true then 0 else errB (kindOf x.op) := by
  unfold oneE
  cases hr : x.right
  · rfl
  simp only [Bool.not_true, Bool.false_eq_true, if_false, Bool.true_eq_false]
  rw [branch_kind]
  obtain ⟨op, jt, jf, k⟩ := x
  simp only at hk ⊢
  clear hr
  by_cases h1 : op = 32
  · subst h1
    rw [show kindOf 32 = 1 from rfl]
    show (if (true && (k % 4 != 0 || decide (60 < k))) = true then (6 : Int) else _) = if (1 : Nat) = 0 then 0 else if (k.tmod 4 == 0 && decide (k < 64)) = true then 0 else 6
    rw [tmod4 hk]
    cases (k % 4 != 0 || decide (60 < k)) <;> simp
  by_cases h2 : op = 2 ∨ op = 3 ∨ op = 96 ∨ op = 97
  · have h : ∀ o, kindOf o = 2 → kindOf op = 2 := fun o h => by unfold kindOf; simp [h1, h2]
    rw [h 2 rfl]
    have e : (op == 2 || op == 3 || op == 96 || op == 97) = true := by rcases h2 with h | h | h | h <;> subst h <;> rfl
    rw [e]
    have e' : (op == 32) = false := by simpa using h1
    have e3 : (op == 52) = false := by rcases h2 with h | h | h | h <;> subst h <;> rfl
    have e4 : (op == 100 || op == 116) = false := by rcases h2 with h | h | h | h <;> subst h <;> rfl
    have e5 : (op == 5) = false := by rcases h2 with h | h | h | h <;> subst h <;> rfl
    rw [e', e3, e4, e5]
    show (if _ then _ else if (true && decide (15 < k)) = true then (7 : Int) else _) = if (2 : Nat) = 0 then 0 else if decide (k < 16) = true then 0 else 7
    by_cases h : k < 16
    · have : ¬ 15 < k := by omega
      simp [h, this]
    · have : 15 < k := by omega
      simp [h, this]
  by_cases h3 : op = 52
  · subst h3
    rw [show kindOf 52 = 3 from rfl]
    show (if (true && k == 0) = true then (8 : Int) else _) = if (3 : Nat) = 0 then 0 else if (k != 0) = true then 0 else 8
    cases h : (k == 0) <;> simp_all
  by_cases h4 : op = 100 ∨ op = 116
  · have h : kindOf op = 4 := by unfold kindOf; rcases h4 with h | h <;> subst h <;> rfl
    rw [h]
    have e : (op == 100 || op == 116) = true := by rcases h4 with h | h <;> subst h <;> rfl
    rw [e]
    have e' : (op == 32) = false := by simpa using h1
    have e2 : (op == 2 || op == 3 || op == 96 || op == 97) = false := by rcases h4 with h | h <;> subst h <;> rfl
    have e3 : (op == 52) = false := by simpa using h3
    have e5 : (op == 5) = false := by rcases h4 with h | h <;> subst h <;> rfl
    rw [e', e2, e3, e5]
    show (if _ then _ else if _ then _ else if _ then _ else if (true && decide (31 < k)) = true then (1 : Int) else _) = if (4 : Nat) = 0 then 0 else if decide (k < 32) = true then 0 else 1
    by_cases h : k < 32
    · have : ¬ 31 < k := by omega
      simp [h, this]
    · have : 31 < k := by omega
      simp [h, this]
  have e' : (op == 32) = false := by simpa using h1
  have e2 : (op == 2 || op == 3 || op == 96 || op == 97) = false := by simpa [and_assoc] using h2
  have e3 : (op == 52) = false := by simpa using h3
  have e4 : (op == 100 || op == 116) = false := by simpa using h4
  rw [e', e2, e3, e4]
  simp only [Bool.false_and, Bool.false_eq_true, if_false]
  by_cases h5 : op = 5
  · subst h5
    rw [show kindOf 5 = 5 from rfl]
    show (if (true && decide (n ≤ k)) = true then (4 : Int) else _) = if (5 : Nat) = 0 then 0 else if decide (k < n) = true then 0 else 4
    by_cases h : k < n
    · have : ¬ n ≤ k := by omega
      simp [h, this]
    · have : n ≤ k := by omega
      simp [h, this]
  have e5 : (op == 5) = false := by simpa using h5
  rw [e5]
  simp only [Bool.false_and, Bool.false_eq_true, if_false]
  by_cases h6 : kindOf op = 6
  · rw [h6]
    show (if (true && (decide (n ≤ jt) || decide (n ≤ jf))) = true then (4 : Int) else 0) = if (6 : Nat) = 0 then 0 else if (decide (jt < n) && decide (jf < n)) = true then 0 else 4
    by_cases a : jt < n <;> by_cases b : jf < n <;> simp [a, b, Int.not_le.2, Int.not_lt.1] <;> omega
  · have h0 : kindOf op = 0 := by
      unfold kindOf at h6 ⊢
      rw [if_neg h1, if_neg h2, if_neg h3, if_neg h4, if_neg h5] at h6 ⊢
      by_cases h : op = 21 ∨ op = 37 ∨ op = 53 ∨ op = 69 ∨ op = 29 ∨ op = 45 ∨ op = 61 ∨ op = 77
      · rw [if_pos h] at h6; exact absurd rfl h6
      · rw [if_neg h]
    rw [h0]
    rfl

theorem right_op {op jt jf k : Int} (h : right op jt jf k = true) : -9223372036854775808 ≤ op ∧ op ≤ 9223372036854775807 := by
  unfold right at h
  cases hb : Ip.byOp op with
  | none => rw [hb] at h; cases h
  | some r =>
    obtain ⟨hr, rfl⟩ := Ip.byOp_op hb
    have := Ip.byOp_bd r.op
    rw [hb] at this
    simp only [Option.getD_some] at this
    omega
/-- What check.fault answers. -/
theorem kfault_any (x : X4) (hx : x.ok) (n : Int) (hn : 0 ≤ n) (hn' : n ≤ 9223372036854775807) (v : Value) (w : World) (hM : MapAt w v) (ht : OTab w) :
    Calls Tryd.prog 64 #[x.val, .int .i64 n, v] w fun e w' => e = .returned (.int .i64 (oneE x n)) ∧ Below w.heap.size w w' := by
  have HE := Lib.hid (one_kind x n hx.1)
  generalize oneE x n = ev at HE ⊢
  obtain ⟨op, jt, jf, k⟩ := x
  obtain ⟨hk, hk'⟩ := hx
  simp only at hk hk' HE
  have hb := ba (insB op jt jf k) (Below.refl w.heap.size w)
  have hH : (w.alloc (insB op jt jf k)).heap[w.heap.size]? = some (insB op jt jf k) := heap_alloc_new _ _
  have ht1 := ht.alloc (insB op jt jf k)
  have HM := Lib.hid (hM.below hb)
  clear hM
  go_enter Tryd.func64, Tryd.ntmps64
  go_wp2_with fail
  refine (right_any op jt jf k _ ht1).mono ?_
  rintro e w1 ⟨rfl, hB⟩
  have hH1 : w1.heap[w.heap.size]? = some (insB op jt jf k) := (hB.block _ (lt_of_block hH)).trans hH
  have hsz := lt_of_block hH1
  have HM1 := Lib.hid (HM.out.below hB)
  have HB1 := Lib.hid (hb.trans (hB.mono hb.size))
  change Hid (ev = if right op jt jf k = false then 1 else if kindOf op = 0 then 0 else if holdsB (kindOf op) jt jf k n = true then 0 else errB (kindOf op)) at HE
  have HX := Lib.hid hH1
  clear hH1 hB hb hH ht1 HM
  cases hr : right op jt jf k
  · have HF := Lib.hid (HE.out.trans (by rw [hr]; rfl) : ev = 1)
    clear hr
    go_wp2_with fail
    go_ret
    exact ⟨retI HF.out, HB1.out⟩
  · have HR := Lib.hid hr
    have hop : -9223372036854775808 ≤ op ∧ op ≤ 9223372036854775807 := right_op hr
    have HE' := Lib.hid (HE.out.trans (by rw [hr]; rfl) : ev = if kindOf op = 0 then 0 else if holdsB (kindOf op) jt jf k n = true then 0 else errB (kindOf op))
    clear hr HE
    obtain ⟨mb, s, rfl, hm, hs⟩ := HM1.out
    have hl := look_map hm op hop
    have c0 : w1.cell? ⟨w.heap.size, 0, none⟩ = some (.int .i64 op) := cell_in HX.out 0
    by_cases h0 : kindOf op = 0
    · rw [h0] at hl
      have HF := Lib.hid (HE'.out.trans (by rw [h0]; rfl) : ev = 0)
      simp only [if_true, bne_self_eq_false] at hl
      have HS := Lib.hid hs
      have HO := Lib.hid hop
      have HZ := Lib.hid h0
      clear hm hs hop h0
      go_wp2_with fail
      go_ret
      exact ⟨retI HF.out, HB1.out⟩
    · obtain ⟨a, b, hv, ca, cb, la, lb⟩ := hs _ (by omega) (kindOf_le op)
      have hne : (kindOf op != 0) = true := by simpa using h0
      rw [if_neg h0, hv, hne] at hl
      have HF := Lib.hid (HE'.out.trans (by rw [if_neg h0]) : ev = if holdsB (kindOf op) jt jf k n = true then 0 else errB (kindOf op))
      have c1 : w1.cell? ⟨w.heap.size, 1, none⟩ = some (.int .i64 jt) := cell_in HX.out 1
      have c2 : w1.cell? ⟨w.heap.size, 2, none⟩ = some (.int .i64 jf) := cell_in HX.out 2
      have c3 : w1.cell? ⟨w.heap.size, 3, none⟩ = some (.int .u32 k) := cell_in HX.out 3
      have HK := Lib.hid (unless1_any (kindOf op) op jt jf k n hk hk' hn hn' w1 a b ca cb la lb)
      generalize (if holdsB (kindOf op) jt jf k n = true then 0 else errB (kindOf op)) = q at HK HF
      clear hm hs hop h0 hv ca cb la lb hne HE' HM1
      go_wp2_with fail
      refine HK.out.mono ?_
      rintro e w2 ⟨rfl, hB2⟩
      have HB2 := Lib.hid (HB1.out.trans (hB2.mono HB1.out.size))
      clear hB2 c0 c1 c2 c3 hl
      go_wp2_with fail
      go_ret
      exact ⟨retI HF.out, HB2.out⟩
end Go.Proofs.YtmbegncnbjafdaaDoor
