/-
  What the laws' texts use, joined.
-/
import Derived.Test.YtbhondjfilohdaaGreatDoorProg
import Derived.WalkKit
import Derived.Laws.BitsAllLaws
import Derived.RowKit
import Derived.ProofKit
import Derived.Lib.Hide
import Derived.Laws.Rows
import Derived.Laws.ResultCell
import Derived.Laws.Entries
import Derived.Handy
import Derived.OwnWalk
import Derived.Laws.OwnMore
import Derived.Deep.Draws
import Derived.Laws.IdiomStrings
import Derived.Lib.BufferRead
import Derived.Maps.OwnSet
import Derived.BigQuiet
import Derived.IntWalk
import Derived.Deep.RegionHeld3
import Derived.BigRegion
import Derived.Lib.OthersKept
import Derived.Lib.QuietBelow
import Derived.Shelf.Strings.Builder1
import Derived.Shelf.Strings.Search1
import Derived.Lib.IndexLaws
import Derived.Laws.Tables
import Derived.Deep.DeepCutAuto
import Derived.Deep.Cut
import Derived.Deep.Slices
import Derived.Lib.Join
import Derived.Laws.RangeAny
import Derived.Lib.MakeNoZero
import Derived.Lib.Builder
import Derived.Laws.IdiomCopy
import Derived.Deep.OwnRows
import Derived.Laws.Strings3
import Derived.Lib.Split
import Derived.Deep.LoopGhost
import Derived.WalkMore
import Derived.Maps.RangeWalk
import Derived.StringKeys
import Derived.Deep.AppendLies
import Derived.Deep.RegionLaw
import Derived.Test.YtbhondjfilohdaaGreatDoorPk1
import Derived.Test.YtbhondjfilohdaaGreatDoorPk2
import Derived.Test.YtbhondjfilohdaaGreatDoorPk3
/-
  The document's Read of a rule's line (package hurdleref10).
-/
namespace Go.Proofs.YtbhondjfilohdaaGreatDoor
open Go.ChangeShapes Go.WideShapes Go.ChangeAt Go.RowKit
set_option maxRecDepth 20000

theorem infoCd : (Tryz.prog.info? 49).map (fun i => (i.zero, i.size, i.bytes)) = some (some (.agg #[.int .i64 0, .int .i64 0, .int .u64 0, .int .u64 0]), 4, 32) := by kernel_rfl
/-- A row of the call's own stays where another block is written. -/
theorem own_put {w w' : World} {g base : Nat} {o : Obj} {e : TypeId} {size : Nat} {v : Value} {n : Nat} {xs : List Value} (h : w.ownsRow base e size v n xs) (hp : RowPut w w' g o) (hg : g < base) : w'.ownsRow base e size v n xs := by
  obtain ⟨h1, h2⟩ := h
  refine ⟨h1, h2.imp id ?_⟩
  rintro ⟨k, cap, cur, hv, hk, hh, r⟩
  exact ⟨k, cap, cur, hv, hk, hp.keep (by omega) hh, r⟩
theorem rowPut_cell {w : World} {g : Nat} {old : Array Value} {t : TypeId} (hg : w.heap[g]? = some (.cells old t)) (i : Nat) (v : Value) : RowPut w (w.setCell ⟨g, i, none⟩ v) g (.cells (old.setIfInBounds i v) t) := by
  have h := rowPut_set hg (old.setIfInBounds i v)
  rwa [← setCell_eq_setRow w _ _ _ _ _ _ hg] at h
theorem RowPut.then {w w' w'' : World} {g : Nat} {o o' : Obj} (h : RowPut w w' g o) (h' : RowPut w' w'' g o') : RowPut w w'' g o' :=
  ⟨h'.os.trans h.os, h'.tape.trans h.tape, h'.output.trans h.output, h'.size.trans h.size, h'.row, fun k hk => (h'.rest k hk).trans (h.rest k hk)⟩
theorem put_four {w : World} {g : Nat} {x : Rl} {u : Value} (h : w.heap[g]? = some (rlB x u)) (a n v : Nat) (cs : List Cd) (cv : Value) :
    RowPut w ((((w.setCell ⟨g, 0, none⟩ (.int .u32 (a : Nat))).setCell ⟨g, 1, none⟩ (.int .u32 (n : Nat))).setCell ⟨g, 2, none⟩ cv).setCell ⟨g, 3, none⟩ (.int .u32 (v : Nat))) g (rlB ⟨a, n, v, cs⟩ cv) := by
  have h1 := rowPut_cell h 0 (.int .u32 (a : Nat))
  have h2 := rowPut_cell h1.row 1 (.int .u32 (n : Nat))
  have h3 := rowPut_cell h2.row 2 cv
  have h4 := rowPut_cell h3.row 3 (.int .u32 (v : Nat))
  exact ((h1.then h2).then h3).then h4
theorem qcells_snoc (cs : List Cd) (c : Cd) : qcells ((cs ++ [c]).map cdQ) = qcells (cs.map cdQ) ++ V4.cells (cdQ c) := by
  rw [List.map_append, qcells_app, List.map_singleton, qcells_one]
/-- What comes of a line. -/
def PReadEnd (l : List UInt8) (B : Nat) (w' : World) (e : Ending) : Prop :=
  (∃ x cv, readR l = some x ∧ w'.ownsRow B 49 4 cv x.conds.length (qcells (x.conds.map cdQ)) ∧ e = .returned (.tuple #[x.val cv, .bool true])) ∨ (readR l = none ∧ e = .returned (.tuple #[zeroRl.val (.slice none 0 0), .bool false]))
theorem preadNo {l : List UInt8} {B : Nat} {w' : World} (h : readR l = none) : PReadEnd l B w' (.returned (.tuple #[.agg #[.int .u32 0, .int .u32 0, .slice none 0 0, .int .u32 0], .bool false])) := .inr ⟨h, rfl⟩
end Go.Proofs.YtbhondjfilohdaaGreatDoor
/-
  The document's Parse of a policy (package hurdleref10).
-/
namespace Go.Proofs.YtbhondjfilohdaaGreatDoor
open Go.ChangeShapes Go.WideShapes Go.ChangeAt Go.RowKit
set_option maxRecDepth 20000

theorem results_cell_tmp2 {fn : Func} {p u v : Tmp} {ty : TypeId} (h : fn.results = #[.cell p ty, .tmp u, .tmp v]) (tmps : Array Value) (P : Program) (w : World) :
    (results fn tmps).run P w =
      ((asAddr (tmps.getD p undef)).run P w).andThen fun a w₁ => ((loadVar ty a).run P w₁).andThen fun x w₂ => .ok (.tuple #[x, tmps.getD u undef, tmps.getD v undef]) w₂ := by
  simp only [results, h]
  simp [Sem.run_bind, Result.andThen]
theorem infoRl : (Tryz.prog.info? 28).map (fun i => (i.zero, i.size, i.bytes)) = some (some (.agg #[.int .u32 0, .int .u32 0, .slice none 0 0, .int .u32 0]), 4, 40) := by kernel_rfl
/-- A row of the call's own stays where another one grows. -/
theorem own_keep {w w' : World} {base : Nat} {e : TypeId} {size : Nat} {u v : Value} {n : Nat} {xs : List Value} (h : w.ownsRow base e size v n xs) (hg : w.grownBy w' u.ownBlock) (hne : v.ownBlock = none ∨ v.ownBlock ≠ u.ownBlock) : w'.ownsRow base e size v n xs := by
  obtain ⟨h1, h2⟩ := h
  refine ⟨h1, h2.imp id ?_⟩
  rintro ⟨k, cap, cur, rfl, hk, hh, r⟩
  refine ⟨k, cap, cur, rfl, hk, (hg.block k (lt_of_block hh) (fun e => ?_)).trans hh, r⟩
  rcases hne with h | h
  · simp [Value.ownBlock] at h
  · exact h (by rw [← e]; simp [Value.ownBlock])
/-- Rules that lie in rows of the call's own. -/
structure LOwn (w : World) (B : Nat) (rv : Value) (l : List (Rl × Value)) : Prop where
  row : w.ownsRow B 28 4 rv l.length (qcells (l.map rlQ))
  conds : ∀ p ∈ l, w.ownsRow B 49 4 p.2 p.1.conds.length (qcells (p.1.conds.map cdQ))
theorem LOwn.nil (w : World) (B : Nat) : LOwn w B (.slice none 0 0) [] := ⟨World.ownsRow_nil _ _ _ _, by simp⟩
theorem LOwn.below {w w' : World} {B : Nat} {rv : Value} {l : List (Rl × Value)} (h : LOwn w B rv l) (hb : Below w.heap.size w w') : LOwn w' B rv l := ⟨own_below h.row hb, fun p hp => own_below (h.conds p hp) hb⟩
theorem LOwn.put {w w' : World} {B g : Nat} {o : Obj} {rv : Value} {l : List (Rl × Value)} (h : LOwn w B rv l) (hp : RowPut w w' g o) (hg : g < B) : LOwn w' B rv l := ⟨own_put h.row hp hg, fun p hq => own_put (h.conds p hq) hp hg⟩
theorem LOwn.at {w : World} {B : Nat} {rv : Value} {l : List (Rl × Value)} (h : LOwn w B rv l) : LAt w rv (l.map (·.1)) :=
  ⟨l, rfl, QAt.own h.row (by rw [List.length_map]), fun p hp => QAt.own (h.conds p hp) (by rw [List.length_map])⟩
theorem ne_types : 28 ≠ 49 := by decide
theorem LOwn.grow {w w' : World} {B : Nat} {rv rv' : Value} {l : List (Rl × Value)} {x : Rl} {cv : Value} (h : LOwn w B rv l) (hc : w.ownsRow B 49 4 cv x.conds.length (qcells (x.conds.map cdQ))) (hg : w.grownBy w' rv.ownBlock)
    (hr : w'.ownsRow B 28 4 rv' (l.length + 1) (qcells (l.map rlQ) ++ V4.cells (rlQ (x, cv)))) : LOwn w' B rv' (l ++ [(x, cv)]) := by
  refine ⟨?_, fun p hp => ?_⟩
  · rw [List.length_append, List.length_singleton, List.map_append, qcells_app, List.map_singleton, qcells_one]
    exact hr
  · rcases List.mem_append.1 hp with hp | hp
    · exact own_keep (h.conds p hp) hg (own_apart h.row (h.conds p hp) ne_types)
    · rw [List.mem_singleton.1 hp]
      exact own_keep hc hg (own_apart h.row hc ne_types)
/-- What comes of a text. -/
def PPEnd (l : List UInt8) (w' : World) (e : Ending) : Prop :=
  ∃ rv, LAt w' rv (polT l).1.rules ∧ e = .returned (.tuple #[poV rv (polT l).1.dflt, .int .i64 ((polT l).2.1 : Nat), .int .i64 ((polT l).2.2 : Nat)])
theorem ppEnd_bad {l : List UInt8} {w' : World} {i e : Nat} (h : polT l = (zeroPo, i, e)) : PPEnd l w' (.returned (.tuple #[.agg #[.slice none 0 0, .int .u32 0], .int .i64 (i : Nat), .int .i64 (e : Nat)])) := by
  refine ⟨.slice none 0 0, ?_, ?_⟩
  · rw [h]
    exact LAt.nil w'
  · rw [h]
    rfl
theorem ppEnd_good {l : List UInt8} {w' : World} {rs : List Rl} {d : Nat} {rv : Value} (h : polT l = (⟨rs, d⟩, 0, 0)) (hL : LAt w' rv rs) : PPEnd l w' (.returned (.tuple #[.agg #[rv, .int .u32 (d : Nat)], .int .i64 0, .int .i64 0])) := by
  refine ⟨rv, ?_, ?_⟩
  · rw [h]
    exact hL
  · rw [h]
    rfl
theorem put_pol {w : World} {g : Nat} {u : Value} {d : Nat} (h : w.heap[g]? = some (poB u d)) (rv : Value) (v : Nat) : RowPut w ((w.setCell ⟨g, 0, none⟩ rv).setCell ⟨g, 1, none⟩ (.int .u32 (v : Nat))) g (poB rv v) := by
  have h1 := rowPut_cell h 0 rv
  have h2 := rowPut_cell h1.row 1 (.int .u32 (v : Nat))
  exact h1.then h2
end Go.Proofs.YtbhondjfilohdaaGreatDoor
/-
  A policy with a rule put in (package hurdlelaw11): slices of rules, and their copies.
-/
namespace Go.Proofs.YtbhondjfilohdaaGreatDoor
open Go.ChangeShapes Go.WideShapes Go.ChangeAt Go.RowKit
set_option maxRecDepth 20000

/-- A slice is no longer than there is room. -/
def CapOk (v : Value) : Prop := ∃ ao n cap, v = .slice ao n cap ∧ n ≤ cap ∧ cap ≤ 9223372036854775807
theorem CapOk.own {w : World} {base : Nat} {e : TypeId} {size : Nat} {v : Value} {n : Nat} {xs : List Value} (h : w.ownsRow base e size v n xs) : CapOk v := by
  rcases h.2 with ⟨rfl, h0⟩ | ⟨g, cap, cur, rfl, _, _, hc, hm, _⟩
  · exact ⟨none, 0, 0, rfl, Nat.le_refl _, by omega⟩
  · unfold maxLen at hm
    exact ⟨_, _, _, rfl, hc, hm⟩
end Go.Proofs.YtbhondjfilohdaaGreatDoor
/-
  A line's words, each with a space behind it, plainly: what is taken of them, and what they say. What a round of a range over a text passes by.
-/
namespace Go.Proofs.YtbhondjfilohdaaGreatDoor
open Go.RowKit
set_option maxRecDepth 20000

/-! ### Runes -/
theorem decode_32 (s : ByteArray) (k : Nat) (h : k < s.size) (h32 : (s[k]'h).toNat = 32) : Utf8.decode s k = (32, 1) := by
  rw [decode_ascii s k h (by omega), h32]
theorem decode_not (s : ByteArray) (k : Nat) (h : k < s.size) (h32 : (s[k]'h).toNat ≠ 32) : (Utf8.decode s k).1 ≠ 32 := by
  by_cases ha : (s[k]'h).toNat < 128
  · rw [decode_ascii s k h ha]
    exact h32
  · have := (decode_high s k h (by omega)).1
    omega
theorem decode_pos (s : ByteArray) (k : Nat) (h : k < s.size) : 1 ≤ (Utf8.decode s k).2 := by
  by_cases ha : (s[k]'h).toNat < 128
  · rw [decode_ascii s k h ha]
    exact Nat.le_refl _
  · exact (decode_high s k h (by omega)).2
theorem get_in (s : ByteArray) (k : Nat) (h : k < s.size) : s.get! k = s[k]'h := by
  have := get_at s k h
  simpa using this
/-- A rune ends ahead of the next space. -/
theorem decode_upto (s : ByteArray) (i k : Nat) (hk : k < s.size) (hik : i < k) (h32 : (s[k]'hk).toNat = 32) : i + (Utf8.decode s i).2 ≤ k := by
  have hg : (s.get! k).toNat = 32 := by rw [get_in s k hk, h32]
  obtain ⟨j, rfl⟩ : ∃ j, k = i + j := ⟨k - i, by omega⟩
  have hw : (Utf8.decode s i).2 ≤ j := by
    by_cases j1 : j = 1
    · subst j1
      simp only [Utf8.decode, hg]
      repeat' split
      all_goals simp_all
    · by_cases j2 : j = 2
      · subst j2
        simp only [Utf8.decode, hg]
        repeat' split
        all_goals simp_all
      · by_cases j3 : j = 3
        · subst j3
          simp only [Utf8.decode, hg]
          repeat' split
          all_goals simp_all
        · simp only [Utf8.decode]
          repeat' split
          all_goals (show _ ≤ _; simp; omega)
  omega
/-! ### Words with a space behind each -/
def restT (ws : List (List UInt8)) : List UInt8 := ws.flatMap (· ++ [32])
def freeW (ws : List (List UInt8)) : Prop := ∀ p ∈ ws, ∀ c ∈ p, c ≠ 32
theorem restT_cons (p : List UInt8) (ws : List (List UInt8)) : restT (p :: ws) = p ++ 32 :: restT ws := by simp [restT]
theorem restT_join : ∀ (ws : List (List UInt8)), ws ≠ [] → restT ws = Ip.join ws ++ [32]
  | [], h => absurd rfl h
  | [x], _ => by simp [restT, Ip.join]
  | x :: y :: l, _ => by
    rw [restT_cons, restT_join (y :: l) (by simp)]
    show _ = (x ++ 32 :: Ip.join (y :: l)) ++ [32]
    simp
theorem restT_line (p : List UInt8) : p ++ [32] = restT (Ip.cutAll 32 [] p) := by
  rw [restT_join _ (Ip.cutAll_ne 32 p []), Ip.join_cutAll]
  simp
theorem cutAll_free (m : UInt8) (l : List UInt8) : ∀ cur, (∀ c ∈ cur, c ≠ m) → ∀ y ∈ Ip.cutAll m cur l, ∀ c ∈ y, c ≠ m := by
  induction l with
  | nil =>
    intro cur h y hy
    simp [Ip.cutAll] at hy
    subst hy
    exact h
  | cons c l ih =>
    intro cur h y hy
    rw [Ip.cutAll] at hy
    split at hy
    · rcases List.mem_cons.1 hy with rfl | hy
      · exact h
      · exact ih [] (by simp) y hy
    · rename_i hc
      refine ih (cur ++ [c]) ?_ y hy
      intro d hd
      rcases List.mem_append.1 hd with hd | hd
      · exact h d hd
      · rw [List.mem_singleton.1 hd]
        exact hc
theorem freeW_cut (p : List UInt8) : freeW (Ip.cutAll 32 [] p) := cutAll_free 32 p [] (by simp)
theorem freeW_drop {ws : List (List UInt8)} (h : freeW ws) (k : Nat) : freeW (ws.drop k) := fun p hp => h p (List.mem_of_mem_drop hp)
theorem freeW_take {ws : List (List UInt8)} (h : freeW ws) (k : Nat) : freeW (ws.take k) := fun p hp => h p (List.mem_of_mem_take hp)
theorem restT_drop_le (ws : List (List UInt8)) : ∀ (k : Nat), (restT (ws.drop k)).length ≤ (restT ws).length := by
  induction ws with
  | nil => intro k; simp [restT]
  | cons p l ih =>
    intro k
    cases k with
    | zero => simp
    | succ k =>
      rw [List.drop_succ_cons, restT_cons]
      have := ih k
      simp
      omega
theorem join_take_le (ws : List (List UInt8)) : ∀ (k : Nat), (Ip.join (ws.take k)).length ≤ (restT ws).length := by
  intro k
  by_cases h : ws.take k = []
  · rw [h]
    simp [Ip.join]
  · have e := congrArg List.length (restT_join _ h)
    have : (restT (ws.take k)).length ≤ (restT ws).length := by
      clear e h
      induction ws generalizing k with
      | nil => simp [restT]
      | cons p l ih =>
        cases k with
        | zero => simp [restT]
        | succ k =>
          rw [List.take_succ_cons, restT_cons, restT_cons]
          have := ih k
          simp
          omega
    rw [List.length_append] at e
    simp at e
    omega
theorem join_lib : ∀ (ws : List (List UInt8)), Lib.join ws [32] = Ip.join ws
  | [] => rfl
  | [x] => by rw [Lib.join_one]; rfl
  | x :: y :: l => by
    rw [Lib.join_cons]
    have h := join_lib (y :: l)
    rw [Lib.join_cons] at h
    show _ = x ++ 32 :: Ip.join (y :: l)
    rw [← h]
    simp [Lib.joinTail]
theorem word_at {ws : List (List UInt8)} {p : List UInt8} {l : List (List UInt8)} {k : Nat} (h : ws.drop k = p :: l) : ws.take (k + 1) = ws.take k ++ [p] ∧ ws.drop (k + 1) = l := by
  have hk : k < ws.length := by
    apply Nat.lt_of_not_le
    intro hle
    rw [List.drop_eq_nil_of_le hle] at h
    cases h
  have e := List.drop_eq_getElem_cons hk
  rw [h] at e
  simp only [List.cons.injEq] at e
  obtain ⟨rfl, rfl⟩ := e
  exact ⟨by rw [List.take_succ_eq_append_getElem hk], rfl⟩
/-! ### What a rule's words say of its conditions -/
theorem condsW_app : ∀ (k : Nat) (cs : List Cd) (c : Cd), condsW k (cs ++ [c]) = condsW k cs ++ condW (k + cs.length) c
  | k, [], c => by simp [condsW]
  | k, d :: cs, c => by
    rw [List.cons_append, condsW, condsW, condsW_app (k + 1) cs c, List.append_assoc, List.length_cons, show k + 1 + cs.length = k + (cs.length + 1) by omega]
def textW (c : Cd) : List (List UInt8) := [argW c.arg, numT c.mask, cmpW c.cmp, numT c.value]
theorem condW_eq (k : Nat) (c : Cd) : condW k c = glue k :: textW c := rfl
theorem textW_join (c : Cd) : Ip.join (textW c) = textQ c := by
  show argW c.arg ++ 32 :: (numT c.mask ++ 32 :: (cmpW c.cmp ++ 32 :: numT c.value)) = textQ c
  rfl
theorem textW_free {c : Cd} (h : c.right = true) : freeW (textW c) := by
  obtain ⟨a0, a5, _, _⟩ := (c.right_iff).1 h
  intro p hp d hd
  have : free2 p := by
    unfold textW at hp
    simp only [List.mem_cons, List.not_mem_nil, or_false] at hp
    rcases hp with rfl | rfl | rfl | rfl
    · exact free_arg a0 a5
    · exact free_num _
    · exact free_cmp _
    · exact free_num _
  exact (this d hd).1
/-- Words that are a condition's text when they are joined. -/
theorem words_cond {l : List (List UInt8)} (hf : freeW l) {c : Cd} (hc : c.right = true) (h : Ip.join (l.take 4) = textQ c) : l = textW c ++ l.drop 4 := by
  have hne : l.take 4 ≠ [] := by
    intro e
    rw [e] at h
    have := congrArg List.length h
    simp [Ip.join, textQ, argW] at this
  have e1 := Ip.cutAll_join (l.take 4) hne (freeW_take hf 4)
  have e2 := Ip.cutAll_join (textW c) (by simp [textW]) (textW_free hc)
  rw [textW_join, ← h, e1] at e2
  rw [← e2, List.take_append_drop]
theorem condsW_pre : ∀ (k : Nat) (cs ds : List Cd) (l : List (List UInt8)), (∀ c ∈ cs, c.right = true) → (∀ c ∈ ds, c.right = true) → condsW k cs ++ l = condsW k ds → ∃ es, ds = cs ++ es ∧ l = condsW (k + cs.length) es
  | k, [], ds, l, _, _, h => ⟨ds, rfl, h⟩
  | k, c :: cs, [], l, _, _, h => by simp [condsW, condW] at h
  | k, c :: cs, d :: ds, l, hc, hd, h => by
    obtain ⟨a0, a5, k0, k5⟩ := (c.right_iff).1 (hc c (by simp))
    obtain ⟨b0, b5, j0, j5⟩ := (d.right_iff).1 (hd d (by simp))
    unfold condsW condW at h
    simp only [List.cons_append, List.nil_append, List.cons.injEq, true_and] at h
    obtain ⟨h1, h2, h3, h4, h5⟩ := h
    obtain ⟨es, rfl, e⟩ := condsW_pre (k + 1) cs ds l (fun x hx => hc x (by simp [hx])) (fun x hx => hd x (by simp [hx])) h5
    have e1 := argW_inj a0 a5 b0 b5 h1
    have e3 := cmpW_inj k0 k5 j0 j5 h3
    have e2 := numT_inj h2
    have e4 := numT_inj h4
    refine ⟨es, ?_, ?_⟩
    · obtain ⟨_, _, _, _⟩ := c
      obtain ⟨_, _, _, _⟩ := d
      simp_all
    · rw [e]
      congr 1
      simp
      omega
/-- These words are no conditions'. -/
def noConds (ws : List (List UInt8)) : Prop := ∀ ds : List Cd, ds.length ≤ 4 → (∀ c ∈ ds, c.ok ∧ c.right = true) → ws ≠ condsW 0 ds
section
variable {ws l : List (List UInt8)} {cs : List Cd}
theorem noConds_of (h : ws = condsW 0 cs ++ l) (hcs : ∀ c ∈ cs, c.ok ∧ c.right = true) (hno : ∀ es : List Cd, cs.length + es.length ≤ 4 → (∀ c ∈ es, c.ok ∧ c.right = true) → l ≠ condsW cs.length es) : noConds ws := by
  intro ds hl hds e
  rw [h] at e
  obtain ⟨es, rfl, e2⟩ := condsW_pre 0 cs ds l (fun c hc => (hcs c hc).2) (fun c hc => (hds c hc).2) e
  rw [Nat.zero_add] at e2
  exact hno es (by simpa using hl) (fun c hc => hds c (by simp [hc])) e2
theorem noConds_many (h : ws = condsW 0 cs ++ l) (hcs : ∀ c ∈ cs, c.ok ∧ c.right = true) (hl : l ≠ []) (h4 : cs.length = 4) : noConds ws :=
  noConds_of h hcs fun es hes _ e => by
    have : es = [] := List.length_eq_zero_iff.1 (by omega)
    subst this
    exact hl e
theorem noConds_word (h : ws = condsW 0 cs ++ l) (hcs : ∀ c ∈ cs, c.ok ∧ c.right = true) {p : List UInt8} {m : List (List UInt8)} (hl : l = p :: m) (hp : p ≠ glue cs.length) : noConds ws :=
  noConds_of h hcs fun es _ _ e => by
    cases es with
    | nil => rw [hl] at e; cases e
    | cons d es =>
      rw [hl] at e
      simp only [condsW, condW, List.cons_append, List.cons.injEq] at e
      exact hp e.1
theorem noConds_text (h : ws = condsW 0 cs ++ l) (hcs : ∀ c ∈ cs, c.ok ∧ c.right = true) {p : List UInt8} {m : List (List UInt8)} (hl : l = p :: m) (hp : ∀ c : Cd, c.ok → c.right = true → Ip.join (m.take 4) ≠ textQ c) : noConds ws :=
  noConds_of h hcs fun es _ hes e => by
    cases es with
    | nil => rw [hl] at e; cases e
    | cons d es =>
      rw [hl] at e
      rw [condsW, condW_eq, List.cons_append, List.cons.injEq] at e
      have hd := hes d (by simp)
      refine hp d hd.1 hd.2 ?_
      rw [e.2]
      show Ip.join (textW d) = _
      exact textW_join d
theorem conds_more (h : ws = condsW 0 cs ++ l) (hf : freeW l) {p : List UInt8} {m : List (List UInt8)} (hl : l = p :: m) (hp : p = glue cs.length) {c : Cd} (hc : c.right = true) (ht : Ip.join (m.take 4) = textQ c) :
    ws = condsW 0 (cs ++ [c]) ++ m.drop 4 := by
  have e := words_cond (l := m) (fun q hq => hf q (by rw [hl]; simp [hq])) hc ht
  rw [h, hl, condsW_app, Nat.zero_add, condW_eq, hp, List.append_assoc, List.cons_append]
  congr 2
end
/-! ### Rules and defaults -/
theorem lineL_words {p : List UInt8} {x : Rl} (hx : x.right = true) : p = lineL x ↔ Ip.cutAll 32 [] p = wordsR x := by
  constructor
  · rintro rfl
    exact cut_line hx
  · intro h
    have := Ip.join_cutAll p []
    rw [h] at this
    exact this.symm
theorem lineD_words {p : List UInt8} {v : Nat} : p = lineD v ↔ Ip.cutAll 32 [] p = defW v := by
  constructor
  · rintro rfl
    exact cut_def v
  · intro h
    have := Ip.join_cutAll p []
    rw [h] at this
    exact this.symm
/-- The word at a place, as it is taken: nothing where there is none. -/
def wordN (ws : List (List UInt8)) (k : Nat) : List UInt8 := Ip.join ((ws.drop k).take 1)
theorem wordN_some {ws : List (List UInt8)} {k : Nat} (h : wordN ws k ≠ []) : ws.drop k = wordN ws k :: ws.drop (k + 1) := by
  cases e : ws.drop k with
  | nil =>
    unfold wordN at h
    rw [e] at h
    exact absurd rfl h
  | cons p l =>
    unfold wordN
    rw [e, (word_at e).2]
    rfl
def tblFull (T : Tbl) : Bool := T.all fun p => !(bl p.1).isEmpty
theorem textN_ne {T : Tbl} (h : tblFull T = true) (n : Nat) : bl (textN T n) ≠ [] := by
  rcases textN_is T n with ⟨p, hp, _, e⟩ | ⟨_, e⟩
  · rw [e]
    unfold tblFull at h
    rw [List.all_eq_true] at h
    simpa using h p hp
  · rw [e]
    show numT n ≠ []
    simp [numT]
theorem machT_full : tblFull machT = true := by decide
theorem callT_full (a : Nat) : tblFull (callT a) = true := by
  unfold callT
  split
  · decide
  split
  · decide
  split
  · decide
  split
  · decide
  rfl
theorem act_ne {v : Nat} (h : (actT v).isSome = true) : bl (actB v) ≠ [] := by
  unfold actB
  cases hv : actT v with
  | none => rw [hv] at h; cases h
  | some s =>
    show bl s ≠ []
    rcases actT_some hv with ⟨n, _, _, rfl⟩ | ⟨_, rfl⟩ | ⟨_, rfl⟩ | ⟨_, rfl⟩ | ⟨_, rfl⟩
    · unfold bl
      rw [err_list]
      simp
    all_goals simp [bl]; try decide
section
variable {p : List UInt8} {ws : List (List UInt8)}
theorem rule_of (hw : ws = Ip.cutAll 32 [] p) {a n v : Nat} {cs : List Cd} (h0 : wordN ws 0 = wOn) (h1 : wordN ws 1 = bl (textN machT a)) (h2 : wordN ws 2 = bl (textN (callT a) n)) (h3 : wordN ws 3 = bl (actB v)) (hv : (actT v).isSome = true) (hc : ws.drop 4 = condsW 0 cs) (h4 : cs.length ≤ 4) (hcs : ∀ c ∈ cs, c.right = true) : p = lineL ⟨a, n, v, cs⟩ := by
  have e0 := wordN_some (ws := ws) (k := 0) (by rw [h0]; decide)
  have e1 := wordN_some (ws := ws) (k := 1) (by rw [h1]; exact textN_ne machT_full _)
  have e2 := wordN_some (ws := ws) (k := 2) (by rw [h2]; exact textN_ne (callT_full _) _)
  have e3 := wordN_some (ws := ws) (k := 3) (by rw [h3]; exact act_ne hv)
  rw [List.drop_zero, h0] at e0
  rw [h1] at e1
  rw [h2] at e2
  rw [h3] at e3
  refine (lineL_words (x := ⟨a, n, v, cs⟩) (rl_right h4 hv hcs)).2 ?_
  rw [← hw, e0]
  show wOn :: ws.drop 1 = _
  rw [e1]
  show wOn :: _ :: ws.drop 2 = _
  rw [e2]
  show wOn :: _ :: _ :: ws.drop 3 = _
  rw [e3]
  show wOn :: _ :: _ :: _ :: ws.drop 4 = _
  rw [hc]
  rfl
theorem rule_no (hw : ws = Ip.cutAll 32 [] p) {x : Rl} (hx : x.right = true) (h : p = lineL x) : wordN ws 0 = wOn ∧ wordN ws 1 = bl (textN machT x.arch) ∧ wordN ws 2 = bl (textN (callT x.arch) x.nr) ∧ wordN ws 3 = bl (actB x.act) ∧ ws.drop 4 = condsW 0 x.conds := by
  have e := (lineL_words hx).1 h
  rw [← hw] at e
  rw [e]
  exact ⟨rfl, rfl, rfl, rfl, rfl⟩
theorem def_is (hw : ws = Ip.cutAll 32 [] p) {v : Nat} (h0 : wordN ws 0 = wDefault) (h1 : wordN ws 1 = bl (actB v)) (hv : (actT v).isSome = true) (h2 : ws.drop 2 = []) : p = lineD v := by
  have e0 := wordN_some (ws := ws) (k := 0) (by rw [h0]; decide)
  have e1 := wordN_some (ws := ws) (k := 1) (by rw [h1]; exact act_ne hv)
  rw [List.drop_zero, h0] at e0
  rw [h1] at e1
  refine lineD_words.2 ?_
  rw [← hw, e0]
  show wDefault :: ws.drop 1 = _
  rw [e1]
  show wDefault :: _ :: ws.drop 2 = _
  rw [h2]
  rfl
theorem def_no (hw : ws = Ip.cutAll 32 [] p) {v : Nat} (h : p = lineD v) : wordN ws 0 = wDefault ∧ wordN ws 1 = bl (actB v) ∧ ws.drop 2 = [] := by
  have e := lineD_words.1 h
  rw [← hw] at e
  rw [e]
  exact ⟨rfl, rfl, rfl⟩
end
end Go.Proofs.YtbhondjfilohdaaGreatDoor
/-
  Package policy: a reader's words: take, more, wordsOf; strings.Join of any texts.
-/
namespace Go.Proofs.YtbhondjfilohdaaGreatDoor
open Go.ChangeShapes Go.WideShapes Go.ChangeAt Go.RowKit
set_option maxRecDepth 20000

/-- Below block B nothing else than block g has changed. -/
structure OwnAt (B : Nat) (w w' : World) (g : Nat) (o : Obj) : Prop where
  os : w'.os = w.os
  tape : w'.tape = w.tape
  output : w'.output = w.output
  size : w.heap.size ≤ w'.heap.size
  row : w'.heap[g]? = some o
  rest : ∀ k, k ≠ g → k < B → w'.heap[k]? = w.heap[k]?
section
variable {B g : Nat} {w w' w'' : World} {o o' : Obj}
theorem OwnAt.refl (h : w.heap[g]? = some o) : OwnAt B w w g o := ⟨rfl, rfl, rfl, Nat.le_refl _, h, fun _ _ _ => rfl⟩
theorem OwnAt.then {B' : Nat} (h : OwnAt B w w' g o) (hb : Below B' w' w'') (hB : B ≤ B') (hg : g < B') : OwnAt B w w'' g o :=
  ⟨hb.os.trans h.os, hb.tape.trans h.tape, hb.output.trans h.output, Nat.le_trans h.size hb.size, (hb.block g hg).trans h.row, fun k hk hkB => (hb.block k (by omega)).trans (h.rest k hk hkB)⟩
theorem OwnAt.next (h : OwnAt B w w' g o) (hb : Below w'.heap.size w' w'') (hB : B ≤ w.heap.size) : OwnAt B w w'' g o :=
  h.then hb (Nat.le_trans hB h.size) (lt_of_block h.row)
theorem OwnAt.put (h : OwnAt B w w' g o) (hp : RowPut w' w'' g o') : OwnAt B w w'' g o' :=
  ⟨hp.os.trans h.os, hp.tape.trans h.tape, hp.output.trans h.output, by rw [hp.size]; exact h.size, hp.row, fun k hk hkB => (hp.rest k hk).trans (h.rest k hk hkB)⟩
theorem OwnAt.trans {B' : Nat} (h : OwnAt B w w' g o) (h' : OwnAt B' w' w'' g o') (hB : B ≤ B') : OwnAt B w w'' g o' :=
  ⟨h'.os.trans h.os, h'.tape.trans h.tape, h'.output.trans h.output, Nat.le_trans h.size h'.size, h'.row, fun k hk hkB => (h'.rest k hk (by omega)).trans (h.rest k hk hkB)⟩
theorem OwnAt.below {a : World} {C : Nat} (h : OwnAt B w w' g o) (hb : Below C a w) (hC : C ≤ B) (hg : C ≤ g) : Below C a w' :=
  ⟨h.os.trans hb.os, h.tape.trans hb.tape, h.output.trans hb.output, Nat.le_trans hb.size h.size, fun k hk => (h.rest k (by omega) (by omega)).trans (hb.block k hk)⟩
theorem OwnAt.keep {k : Nat} {x : Obj} (h : OwnAt B w w' g o) (hk : k ≠ g) (hkB : k < B) (ho : w.heap[k]? = some x) : w'.heap[k]? = some x := (h.rest k hk hkB).trans ho
theorem OwnAt.own {base size n : Nat} {e : TypeId} {v : Value} {xs : List Value} (h : OwnAt B w w' g o) (hw : w.ownsRow base e size v n xs) (hg : g < base) (hB : w.heap.size ≤ B) : w'.ownsRow base e size v n xs := by
  obtain ⟨h1, h2⟩ := hw
  refine ⟨h1, h2.imp id ?_⟩
  rintro ⟨k, cap, cur, hv, hk, hh, r⟩
  exact ⟨k, cap, cur, hv, hk, h.keep (by omega) (Nat.lt_of_lt_of_le (lt_of_block hh) hB) hh, r⟩
theorem OwnAt.grown {base size n : Nat} {e : TypeId} {v : Value} {xs : List Value} (h : OwnAt B w w' g o) (hw : w'.ownsRow base e size v n xs) (hgr : w'.grownBy w'' v.ownBlock) (hB : B ≤ w'.heap.size) (hb : B ≤ base) (hg : g < base) : OwnAt B w w'' g o := by
  have hlt := hw.lt
  have hgs := lt_of_block h.row
  refine ⟨hgr.os.trans h.os, hgr.tape.trans h.tape, hgr.output.trans h.output, Nat.le_trans h.size hgr.size, (hgr.block g hgs (fun e => ?_)).trans h.row, fun k hk hkB => (hgr.block k (by omega) (fun e => ?_)).trans (h.rest k hk hkB)⟩
  · have := (hlt g e.symm).1
    omega
  · have := (hlt k e.symm).1
    omega
end
/-! ### strings.Join of the texts of a row of the call's own -/
theorem strJoin_own (base n : Nat) (v : Value) (xs : List (List UInt8)) (m : UInt8) (w : World) (hw : w.ownsRow base 9 1 v n (strs xs)) (hn : xs.length = n) (hN : n ≤ 140737488355328) (hlen : (Lib.join xs [m]).length ≤ 140737488355328) :
    Calls Tryz.prog 59 #[v, .string ⟨#[m]⟩] w fun e w' => e = .returned (.string (bsT (Lib.join xs [m]))) ∧ Below w.heap.size w w' := by
  subst hn
  rcases hw.2 with ⟨rfl, h0⟩ | ⟨g, cap, cur, rfl, _, hg, hc, _, _, ht⟩
  · obtain rfl := List.length_eq_zero_iff.1 h0
    go_enter Tryz.func59, Tryz.ntmps59
    go_wp2_with fail
    go_ret
    exact ⟨rfl, Below.refl _ _⟩
  · have hcell : ∀ i (h : i < xs.length), w.cell? ⟨g, i, none⟩ = some (.string ⟨xs[i].toArray⟩) := fun i hi => by
      rw [cell_in hg, ← Array.getElem?_toList]
      have hu : (strs xs)[i]? = some (.string ⟨xs[i].toArray⟩) := by simp [hi]
      rw [← ht, List.getElem?_take, if_pos (by omega)] at hu
      exact hu
    match xs, hcell, hN, hlen, hc with
    | [], _, _, _, _ =>
      go_enter Tryz.func59, Tryz.ntmps59
      go_wp2_with fail
      go_ret
      exact ⟨rfl, Below.refl _ _⟩
    | [x], hcell, _, _, _ =>
      have h0 : w.cell? ⟨g, 0, none⟩ = some (.string ⟨x.toArray⟩) := hcell 0 (by simp)
      have HE : Hid ((⟨x.toArray⟩ : ByteArray) = bsT (Lib.join [x] [m])) := Lib.hid (by rw [Lib.join_one])
      clear hcell
      generalize (⟨x.toArray⟩ : ByteArray) = X at *
      rw [← HE.out]
      go_enter Tryz.func59, Tryz.ntmps59
      go_wp2_with fail
      go_ret
      exact ⟨rfl, Below.refl _ _⟩
    | x :: y :: l, hcell, hN, hlen, hc =>
      refine strJoin_any g 0 cap (x :: y :: l) m w (fun j z hz => ?_) (lt_of_block hg) (by simp) hN hc hlen
      rw [Nat.zero_add]
      have hj := (List.getElem?_eq_some_iff.1 hz)
      obtain ⟨hj1, rfl⟩ := hj
      exact hcell j hj1
/-! ### A reader -/
abbrev rdB (l : List UInt8) : Obj := .cells #[.string (bsT l)] 79
theorem iter_below {w : World} {S : ByteArray} {pos : Nat} : Below w.heap.size w (w.iter S pos) := ba _ (Below.refl _ _)
theorem rest_head (p r : List UInt8) : (bsT (p ++ 32 :: r)).extract 0 p.length = bsT p ∧ (bsT (p ++ 32 :: r)).extract (p.length + 1) (bsT (p ++ 32 :: r)).size = bsT r := by
  constructor
  · rw [take_str]
    simp
  · rw [drop_str]
    show bsT ((p ++ 32 :: r).drop (p.length + 1)) = bsT r
    rw [← List.drop_drop, List.drop_left]
    rfl
theorem rest_at (p r : List UInt8) (hf : ∀ c ∈ p, c ≠ 32) (S : ByteArray) (hS : S = bsT (p ++ 32 :: r)) : S.size = p.length + 1 + r.length ∧ Utf8.decode S p.length = (32, 1) ∧ ∀ pos, pos < p.length → (Utf8.decode S pos).1 ≠ 32 ∧ 1 ≤ (Utf8.decode S pos).2 ∧ pos + (Utf8.decode S pos).2 ≤ p.length := by
  have hz : S.size = p.length + 1 + r.length := by
    rw [hS]
    show (p ++ 32 :: r).length = _
    simp
    omega
  have hb : ∀ (i : Nat) (h : i < S.size), S[i]'h = (p ++ 32 :: r)[i]'(by simp; omega) := by
    subst hS
    intro i h
    rfl
  have h32 : (S[p.length]'(by omega)).toNat = 32 := by
    rw [hb]
    simp
  refine ⟨hz, decode_32 S _ (by omega) h32, fun pos hp => ⟨?_, decode_pos S pos (by omega), decode_upto S pos p.length (by omega) hp h32⟩⟩
  refine decode_not S pos (by omega) fun e => ?_
  rw [hb, List.getElem_append_left hp] at e
  exact hf _ (List.getElem_mem hp) (UInt8.toNat_inj.1 e)
set_option maxHeartbeats 8000000 in
/-- The next words, as one text. -/
theorem take_any (g n : Nat) (ws : List (List UInt8)) (w : World) (hg : w.heap[g]? = some (rdB (restT ws))) (hf : freeW ws) (hz : (restT ws).length ≤ 100000) (hn : n ≤ 4) :
    Calls Tryz.prog 40 #[.pointer (some ⟨g, 0, none⟩), .int .i64 (n : Nat)] w fun e w' => e = .returned (.string (bsT (Ip.join (ws.take n)))) ∧ OwnAt w.heap.size w w' g (rdB (restT (ws.drop n))) := by
  obtain ⟨i0, hi, hz0, hz1, hz2⟩ := info_parts infoS
  have hglt := lt_of_block hg
  have HF := Lib.hid hf
  have HZ := Lib.hid hz
  have HO0 : Hid (w.ownsRow w.heap.size 9 1 (.slice none 0 0) 0 (strs (ws.take 0))) := Lib.hid (World.ownsRow_nil _ _ _ _)
  have HA0 : Hid (OwnAt w.heap.size w w g (rdB (restT (ws.drop 0)))) := Lib.hid (OwnAt.refl (by rw [List.drop_zero]; exact hg))
  have HJL : Hid (∀ j, (Lib.join (ws.take j) [32]).length ≤ 140737488355328) := Lib.hid fun j => by
    rw [join_lib]
    have := join_take_le ws j
    omega
  clear hf hg hz
  go_enter Tryz.func40, Tryz.ntmps40
  go_wp2_with fail
  go_step3
  go_wp2_with fail
  go_step3
  go_wp2_with fail
  go_loopg [5] (n + 1) (fun k v wr => ∃ j : Nat, j + k = n + 1 ∧ j ≤ n ∧ j ≤ ws.length ∧ Hid (wr.ownsRow w.heap.size 9 1 v j (strs (ws.take j))) ∧ Hid (OwnAt w.heap.size w wr g (rdB (restT (ws.drop j)))))
  case atStart => exact ⟨0, by omega, Nat.zero_le _, Nat.zero_le _, HO0, HA0⟩
  case round =>
    obtain ⟨j, hjk, hjn, hjl, HO, HA⟩ := hrel
    clear HO0 HA0
    have HJ : Hid (Calls Tryz.prog 59 #[u5, .string ⟨#[32]⟩] wr fun e w' => e = .returned (.string (bsT (Lib.join (ws.take j) [32]))) ∧ Below wr.heap.size wr w') :=
      Lib.hid (strJoin_own w.heap.size j u5 (ws.take j) 32 wr HO.out (by rw [List.length_take]; omega) (by omega) (HJL.out j))
    obtain ⟨ao, cap, rfl⟩ := own_shape HO.out
    have hws : w.heap.size ≤ wr.heap.size := HA.out.size
    by_cases hjlt : j < n
    case neg =>
      obtain rfl : j = n := by omega
      have hb : ¬ ((j : Int) < (j : Int)) := by omega
      go_wp2_with fail
      refine HJ.out.mono ?_
      rintro e w2 ⟨rfl, hb2⟩
      have HA2 := Lib.hid (HA.out.next hb2 (Nat.le_refl _))
      clear hb2
      go_wp2_with fail
      (try rw [Exit.noGoto_ret])
      go_ret
      exact ⟨by rw [join_lib]; rfl, HA2.out⟩
    have hlt : (j : Int) < (n : Int) := by omega
    cases hd : ws.drop j with
    | nil =>
      have hje : ws.length ≤ j := List.drop_eq_nil_iff.1 hd
      have HT : Hid (ws.take n = ws.take j) := Lib.hid (by rw [List.take_of_length_le hje, List.take_of_length_le (by omega)])
      have HD : Hid (ws.drop n = ws.drop j) := Lib.hid (by rw [List.drop_eq_nil_of_le hje, List.drop_eq_nil_of_le (by omega)])
      have c0 : wr.cell? ⟨g, 0, none⟩ = some (.string ⟨#[]⟩) := by
        rw [cell_in HA.out.row 0, hd]
        rfl
      clear hd hje
      go_wp2_with fail
      go_loopg [5] 0 (fun k v wv => v = .slice ao j cap ∧ wv = wr.iter ⟨#[]⟩ 0)
      case atStart => exact ⟨rfl, rfl⟩
      case round =>
        obtain ⟨rfl, rfl⟩ := hrel
        have hnx : ∀ ty, (Instr.next (.pointer (some ⟨wr.heap.size, 0, none⟩)) true ty).run Tryz.prog (wr.iter ⟨#[]⟩ 0) = _ := fun ty => run_next_end wr ⟨#[]⟩ 0 ty (by decide)
        have HJ2 : Hid (Calls Tryz.prog 59 #[.slice ao j cap, .string ⟨#[32]⟩] (wr.iter ⟨#[]⟩ 0) fun e w' => e = .returned (.string (bsT (Lib.join (ws.take j) [32]))) ∧ Below (wr.iter ⟨#[]⟩ 0).heap.size (wr.iter ⟨#[]⟩ 0) w') :=
          Lib.hid (strJoin_own w.heap.size j _ (ws.take j) 32 _ (own_below HO.out iter_below) (by rw [List.length_take]; omega) (by omega) (HJL.out j))
        have HA3 : Hid (OwnAt w.heap.size w (wr.iter ⟨#[]⟩ 0) g (rdB (restT (ws.drop j)))) := Lib.hid (HA.out.next iter_below (Nat.le_refl _))
        go_wp2_with fail
        refine HJ2.out.mono ?_
        rintro e w2 ⟨rfl, hb2⟩
        have HA2 := Lib.hid (HA3.out.next hb2 (Nat.le_refl _))
        clear hb2
        go_wp2_with fail
        (try rw [Exit.noGoto_ret])
        go_ret
        exact ⟨by rw [join_lib, HT.out]; rfl, by rw [HD.out]; exact HA2.out⟩
    | cons p l =>
      obtain ⟨htk, hdr⟩ := word_at hd
      have hpf : ∀ c ∈ p, c ≠ 32 := HF.out p (List.mem_of_mem_drop (i := j) (by rw [hd]; simp))
      have hlj : j < ws.length := by
        apply Nat.lt_of_not_le
        intro hle
        rw [List.drop_eq_nil_of_le hle] at hd
        cases hd
      obtain ⟨S, hSe⟩ : ∃ S : ByteArray, S = bsT (p ++ 32 :: restT l) := ⟨_, rfl⟩
      obtain ⟨hSz, hS1, hS2⟩ := rest_at p (restT l) hpf S hSe
      have c0 : wr.cell? ⟨g, 0, none⟩ = some (.string S) := by
        rw [cell_in HA.out.row 0, hd, restT_cons, hSe]
        rfl
      obtain ⟨he1, he2⟩ := rest_head p (restT l)
      rw [← hSe] at he1 he2
      have HN : Hid (∀ pos, pos < p.length → (Utf8.decode S pos).1 ≠ 32 ∧ 1 ≤ (Utf8.decode S pos).2 ∧ pos + (Utf8.decode S pos).2 ≤ p.length) := Lib.hid hS2
      have HP := Lib.hid hS1
      have HSE : Hid (bsT (restT (ws.drop j)) = S) := Lib.hid (by rw [hd, restT_cons, hSe])
      have HE1 := Lib.hid he1
      have HE2 := Lib.hid he2
      have HTK := Lib.hid htk
      have HDR := Lib.hid hdr
      have hzl : S.size ≤ 100001 := by
        have h1 := restT_drop_le ws j
        have h2 := HZ.out
        rw [hd, restT_cons, List.length_append, List.length_cons] at h1
        omega
      have hSz1 : p.length + 1 ≤ S.size := by omega
      clear hSe hS1 hS2 he1 he2 htk hdr hpf hd hSz
      go_wp2_with fail
      go_loopg [5] (p.length + 1) (fun k v wv => ∃ pos : Nat, pos ≤ p.length ∧ p.length + 1 ≤ k + pos ∧ v = .slice ao j cap ∧ wv = wr.iter S pos)
      case atStart => exact ⟨0, Nat.zero_le _, by omega, rfl, rfl⟩
      case round =>
        obtain ⟨pos, hp1, hp2, rfl, rfl⟩ := hrel
        by_cases hpl : pos < p.length
        · obtain ⟨hd1, hd2, hd3⟩ := HN.out pos hpl
          have hnx : ∀ ty, (Instr.next (.pointer (some ⟨wr.heap.size, 0, none⟩)) true ty).run Tryz.prog (wr.iter S pos) = _ := fun ty => run_next_any wr S pos ty (by omega)
          obtain ⟨D, hD⟩ : ∃ D, D = Utf8.decode S pos := ⟨_, rfl⟩
          rw [← hD] at hnx hd1 hd2 hd3
          obtain ⟨D1, D2⟩ := D
          simp only at hnx hd1 hd2 hd3
          have hne : ((D1 : Int) == 32) = false := by simp; omega
          clear hD
          go_wp2_with fail
          go_roundg (gk - 1)
          case measure => omega
          case rel => exact ⟨pos + D2, by omega, by omega, rfl, rfl⟩
        · obtain rfl : pos = p.length := by omega
          have hnx : ∀ ty, (Instr.next (.pointer (some ⟨wr.heap.size, 0, none⟩)) true ty).run Tryz.prog (wr.iter S p.length) = .ok (.tuple #[.bool true, .int .i64 p.length, .int .i32 32]) (wr.iter S (p.length + 1)) := fun ty => by
            rw [run_next_any wr S p.length ty (by omega), HP.out]
            rfl
          have hb1 : Below wr.heap.size wr (wr.iter S (p.length + 1)) := iter_below
          have HO1 := Lib.hid (own_below HO.out hb1)
          have HA1 := Lib.hid (HA.out.next hb1 (Nat.le_refl _))
          have c1 := (hb1.cell (p := ⟨g, _, none⟩) (lt_of_block HA.out.row)).trans c0
          have hs1 : w.heap.size ≤ (wr.iter S (p.length + 1)).heap.size := HA1.out.size
          have q1 : (p.length : Int) ≤ (S.size : Int) := by omega
          clear hb1
          go_upto_region 7 with fail
          obtain ⟨W1, hW1⟩ : ∃ V, V = wr.iter S (p.length + 1) := ⟨_, rfl⟩
          rw [← hW1] at HO1 HA1 c1 hs1 ⊢
          clear hW1 hnx
          go_wp2_with (at_builtin; refine wpList_append_own _ rfl _ _ 95 rfl w.heap.size 9 i0 (.string ⟨#[]⟩) 1 16 Tryz.underlying95 hi hz0 hz1 hz2 rfl (by decide) _ _ _ rfl (HO1.out.alloc _) ⟨W1.heap.size, 0, none⟩ 1 1 [.string (S.extract 0 p.length)] rfl rfl (new_at W1 #[.string (S.extract 0 p.length)] 9) (by simp [Value.oneCell']) (by unfold maxLen; omega) (by omega) (by rw [size_alloc]; omega) ?_)
          intro v2 w5 hown hgrow _
          have HA5 : Hid (OwnAt w.heap.size w w5 g (rdB (restT (ws.drop j)))) := Lib.hid ((HA1.out.next (ba _ (Below.refl _ _)) (Nat.le_refl _)).grown (HO1.out.alloc _) hgrow (by rw [size_alloc]; omega) (Nat.le_refl _) hglt)
          have HO5 : Hid (w5.ownsRow w.heap.size 9 1 v2 (j + 1) (strs (ws.take (j + 1)))) := Lib.hid (by
            rw [HTK.out]
            rw [HE1.out] at hown
            simpa using hown)
          have c5 : w5.cell? ⟨g, 0, none⟩ = some (.string S) := by
            rw [cell_in HA5.out.row 0, ← HSE.out]
            rfl
          have f5 := free_in HA5.out.row 0
          have HPUT : Hid (RowPut w5 (w5.setCell ⟨g, 0, none⟩ (.string (S.extract (p.length + 1) S.size))) g (rdB (restT (ws.drop (j + 1))))) := Lib.hid (by
            rw [HDR.out, HE2.out]
            exact rowPut_cell HA5.out.row 0 _)
          have q2 : (p.length : Int) + 1 ≤ (S.size : Int) := by omega
          obtain ⟨ao2, cap2, rfl⟩ := own_shape hown
          clear hown hgrow HO1 HA1 HO HA
          go_wp2_with fail
          have HO9 := Lib.hid (own_put HO5.out HPUT.out hglt)
          have HA9 := Lib.hid (HA5.out.put HPUT.out)
          go_roundg (n - j)
          case measure => omega
          case rel => exact ⟨j + 1, by omega, by omega, by omega, HO9, HA9⟩
end Go.Proofs.YtbhondjfilohdaaGreatDoor
/-
  Package policy: a policy's text.
-/
namespace Go.Proofs.YtbhondjfilohdaaGreatDoor
open Go.ChangeShapes Go.WideShapes Go.ChangeAt Go.RowKit
set_option maxRecDepth 20000

theorem popening_any (k : Nat) (w : World) (hk : k ≤ 1000) :
    Calls Tryz.prog 65 #[.int .i64 (k : Nat)] w fun e w' => e = .returned (.string (bsT (glue k))) ∧ Below w.heap.size w w' := by
  by_cases h : k = 0
  · subst h
    go_enter Tryz.func65, Tryz.ntmps65
    go_wp2_with fail
    go_ret
    exact ⟨rfl, Below.refl _ _⟩
  · have hb : ((k : Int) == 0) = false := by simp; omega
    have HE : Hid ((⟨#[97, 110, 100]⟩ : ByteArray) = bsT (glue k)) := Lib.hid (by unfold glue; rw [if_neg h]; rfl)
    rw [← HE.out]
    go_enter Tryz.func65, Tryz.ntmps65
    go_wp2_with fail
    go_ret
    exact ⟨rfl, Below.refl _ _⟩
/-! ### The parts of a rule's line -/
/-! ### The lines -/
/-! ### Print -/
end Go.Proofs.YtbhondjfilohdaaGreatDoor
/-
  Package policy: what is read of a line's words.
-/
namespace Go.Proofs.YtbhondjfilohdaaGreatDoor
open Go.ChangeShapes Go.WideShapes Go.ChangeAt Go.RowKit
set_option maxRecDepth 20000

theorem results_cell_one {fn : Func} {p : Tmp} {ty : TypeId} (h : fn.results = #[.cell p ty]) (tmps : Array Value) (P : Program) (w : World) :
    (results fn tmps).run P w = ((asAddr (tmps.getD p undef)).run P w).andThen fun a w₁ => (loadVar ty a).run P w₁ := by
  simp only [results, h]
  simp [Sem.run_bind]
/-- Are there words left? -/
theorem more_any (g : Nat) (ws : List (List UInt8)) (w : World) (hg : w.heap[g]? = some (rdB (restT ws))) :
    Calls Tryz.prog 42 #[.pointer (some ⟨g, 0, none⟩)] w fun e w' => e = .returned (.bool (!ws.isEmpty)) ∧ Below w.heap.size w w' := by
  have hglt := lt_of_block hg
  cases ws with
  | nil =>
    have c0 : w.cell? ⟨g, 0, none⟩ = some (.string ⟨#[]⟩) := by
      rw [cell_in hg 0]
      rfl
    clear hg
    go_enter Tryz.func42, Tryz.ntmps42
    go_wp2_with fail
    go_ret
    exact ⟨rfl, Below.refl _ _⟩
  | cons p l =>
    obtain ⟨S, hS⟩ : ∃ S : ByteArray, S = bsT (restT (p :: l)) := ⟨_, rfl⟩
    have c0 : w.cell? ⟨g, 0, none⟩ = some (.string S) := by
      rw [cell_in hg 0, hS]
      rfl
    have he : S.toList.isEmpty = false := by
      rw [Go.ByteArray.toList_eq, hS, restT_cons]
      simp
    clear hg hS
    go_enter Tryz.func42, Tryz.ntmps42
    go_wp2_with fail
    go_ret
    exact ⟨rfl, Below.refl _ _⟩
theorem wordsof_any (s : ByteArray) (w : World) (hs : s.size ≤ 100000) :
    Calls Tryz.prog 39 #[.string s] w fun e w' => e = .returned (.agg #[.string (bsT (restT (Ip.cutAll 32 [] s.data.toList)))]) ∧ Below w.heap.size w w' := by
  have hz := heap_alloc_new w (rdB [])
  have HB0 := Lib.hid (ba (rdB []) (Below.refl w.heap.size w))
  have HE : Hid ((s ++ ⟨#[32]⟩ : ByteArray) = bsT (restT (Ip.cutAll 32 [] s.data.toList))) := Lib.hid (by
    rw [← restT_line]
    exact mkT s.data.toList [32])
  rw [← HE.out]
  have n1 : ¬ 9223372036854775807 < s.size + 1 := by omega
  obtain ⟨W, hW⟩ : ∃ W, W = w.alloc (rdB []) := ⟨_, rfl⟩
  rw [← hW] at hz HB0
  have HZ := Lib.hid hz
  clear hz
  go_enter Tryz.func39, Tryz.ntmps39
  go_upto_region 1 with fail
  change Code.wp _ _ _ _ (w.alloc (rdB []))
  rw [← hW]
  clear hW
  have hlt : w.heap.size < W.heap.size := lt_of_block HZ.out
  have r0 : W.cell? ⟨w.heap.size, 0, none⟩ = some (.string ⟨#[]⟩) := cell_in HZ.out 0
  have f0 := free_in HZ.out 0
  go_wp2_with fail
  (try simp only [Exit.inBlock, Exit.then])
  refine bodyPost_ret (v := .agg #[.string (s ++ ⟨#[32]⟩)]) ?_ rfl ⟨rfl, ?_⟩
  · rw [results_cell_one rfl]
    go_simp
  · have hB := HB0.out
    go_grown
/-- The next word. -/
theorem take_at (k g : Nat) (ws : List (List UInt8)) (w : World) (hg : w.heap[g]? = some (rdB (restT (ws.drop k)))) (hf : freeW ws) (hz : (restT ws).length ≤ 100000) :
    Calls Tryz.prog 40 #[.pointer (some ⟨g, 0, none⟩), .int .i64 1] w fun e w' => e = .returned (.string (bsT (wordN ws k))) ∧ OwnAt w.heap.size w w' g (rdB (restT (ws.drop (k + 1)))) := by
  have h := take_any g 1 (ws.drop k) w hg (freeW_drop hf k) (Nat.le_trans (restT_drop_le ws k) hz) (by omega)
  rw [List.drop_drop] at h
  exact h
theorem word_size (ws : List (List UInt8)) (k : Nat) (hz : (restT ws).length ≤ 100000) : (bsT (wordN ws k)).size ≤ 100000 := by
  have h1 := join_take_le (ws.drop k) 1
  have h2 := restT_drop_le ws k
  show (Ip.join ((ws.drop k).take 1)).length ≤ _
  omega
/-- The tables stay where a reader's block changes. -/
theorem Tab.own {w w' : World} {g B : Nat} {l : List UInt8} {o : Obj} (h : Tab w) (hg : w.heap[g]? = some (rdB l)) (ha : OwnAt B w w' g o) (hB : w.heap.size ≤ B) : Tab w' := by
  obtain ⟨h1, h2⟩ := h
  have hne : 3 ≠ g := by
    intro e
    rw [e, cell_in hg 15] at h1
    simp at h1
  refine ⟨?_, Nat.lt_of_lt_of_le h2 ha.size⟩
  rw [← h1]
  exact World.cell?_of_block (ha.rest _ hne (Nat.lt_of_lt_of_le h2 hB))
/-! ### Conditions -/
/-- What comes of words that ought to be conditions'. -/
def CondsEnd (ws : List (List UInt8)) (B : Nat) (w' : World) (e : Ending) : Prop :=
  (∃ (cs : List Cd) (cv : Value), ws = condsW 0 cs ∧ cs.length ≤ 4 ∧ (∀ c ∈ cs, c.ok ∧ c.right = true) ∧ w'.ownsRow B 49 4 cv cs.length (qcells (cs.map cdQ)) ∧ e = .returned (.tuple #[cv, .bool true])) ∨ (noConds ws ∧ e = .returned (.tuple #[.slice none 0 0, .bool false]))
def CondsPost (ws : List (List UInt8)) (g : Nat) (w : World) (e : Ending) (w' : World) : Prop := CondsEnd ws w.heap.size w' e ∧ ∃ o, OwnAt w.heap.size w w' g o
theorem condsNo {ws : List (List UInt8)} {g : Nat} {w w' : World} {o : Obj} (h : noConds ws) (ha : OwnAt w.heap.size w w' g o) : CondsPost ws g w (.returned (.tuple #[.slice none 0 0, .bool false])) w' := ⟨.inr ⟨h, rfl⟩, o, ha⟩
theorem condsYes {ws : List (List UInt8)} {g : Nat} {w w' : World} {o : Obj} {cs : List Cd} {cv : Value} (h : ws = condsW 0 cs) (h4 : cs.length ≤ 4) (hc : ∀ c ∈ cs, c.ok ∧ c.right = true) (ho : w'.ownsRow w.heap.size 49 4 cv cs.length (qcells (cs.map cdQ))) (ha : OwnAt w.heap.size w w' g o) :
    CondsPost ws g w (.returned (.tuple #[cv, .bool true])) w' := ⟨.inl ⟨cs, cv, h, h4, hc, ho, rfl⟩, o, ha⟩
set_option maxHeartbeats 8000000 in
theorem conds_any (g : Nat) (ws : List (List UInt8)) (w : World) (hg : w.heap[g]? = some (rdB (restT ws))) (hf : freeW ws) (hz : (restT ws).length ≤ 100000) (ht : Tab w) :
    Calls Tryz.prog 45 #[.pointer (some ⟨g, 0, none⟩)] w (CondsPost ws g w) := by
  obtain ⟨i0, hi, hz0, hz1, hz2⟩ := info_parts infoCd
  have hglt := lt_of_block hg
  have HF := Lib.hid hf
  have HZ := Lib.hid hz
  have HT := Lib.hid ht
  have HG0 := Lib.hid hg
  have HA0 := Lib.hid (OwnAt.refl (B := w.heap.size) hg)
  obtain ⟨PP, hPP⟩ : ∃ PP, PP = CondsPost ws g w := ⟨_, rfl⟩
  have HPP := Lib.hid hPP
  rw [← hPP]
  clear hf hg hz ht hPP
  go_enter Tryz.func45, Tryz.ntmps45
  go_wp2_with fail
  go_loopg [4] 5 (fun k v wr => ∃ (cs : List Cd) (l : List (List UInt8)), cs.length + k = 5 ∧ cs.length ≤ 4 ∧ Hid (ws = condsW 0 cs ++ l) ∧ Hid (∀ c ∈ cs, c.ok ∧ c.right = true) ∧ Hid (wr.ownsRow w.heap.size 49 4 v cs.length (qcells (cs.map cdQ))) ∧ Hid (OwnAt w.heap.size w wr g (rdB (restT l))))
  case atStart => exact ⟨[], ws, rfl, by simp, Lib.hid rfl, Lib.hid (by simp), Lib.hid (World.ownsRow_nil _ _ _ _), HA0⟩
  case round =>
    obtain ⟨cs, l, hk, h4, HW, HC, HO, HA⟩ := hrel
    clear HA0
    have hws : w.heap.size ≤ wr.heap.size := HA.out.size
    have HL : Hid (freeW l ∧ (restT l).length ≤ 100000) := Lib.hid (by
      have e := HW.out
      refine ⟨fun p hp => HF.out p (by rw [e]; simp [hp]), ?_⟩
      have h1 := HZ.out
      rw [e] at h1
      unfold restT at h1 ⊢
      rw [List.flatMap_append, List.length_append] at h1
      omega)
    obtain ⟨ao, cap, rfl⟩ := own_shape HO.out
    go_wp2_with fail
    refine (more_any g l wr HA.out.row).mono ?_
    rintro e w1 ⟨rfl, hb1⟩
    have HA1 := Lib.hid (HA.out.next hb1 (Nat.le_refl _))
    have HO1 := Lib.hid (own_below HO.out hb1)
    clear hb1 HA HO
    cases l with
    | nil =>
      have HE : Hid (PP (.returned (.tuple #[.slice ao cs.length cap, .bool true])) w1) := Lib.hid (by rw [HPP.out]; exact condsYes (by have := HW.out; rwa [List.append_nil] at this) h4 HC.out HO1.out HA1.out)
      go_wp2_with fail
      exact HE.out
    | cons p m =>
      simp only [List.isEmpty_cons, Bool.not_false]
      by_cases hc4 : cs.length = 4
      · have HE : Hid (PP (.returned (.tuple #[.slice none 0 0, .bool false])) w1) := Lib.hid (by rw [HPP.out]; exact condsNo (noConds_many HW.out HC.out (by simp) hc4) HA1.out)
        have hb4 : ((cs.length : Int) == 4) = true := by simp; omega
        clear hc4
        go_wp2_with fail
        exact HE.out
      have hb4 : ((cs.length : Int) == 4) = false := by simp; omega
      have HTK : Hid (∀ V, V.heap[g]? = some (rdB (restT (p :: m))) → Calls Tryz.prog 40 #[.pointer (some ⟨g, 0, none⟩), .int .i64 1] V fun e w' => e = .returned (.string (bsT p)) ∧ OwnAt V.heap.size V w' g (rdB (restT m))) := Lib.hid (fun V hV => take_any g 1 (p :: m) V hV HL.out.1 HL.out.2 (by omega))
      have HTK4 : Hid (∀ V, V.heap[g]? = some (rdB (restT m)) → Calls Tryz.prog 40 #[.pointer (some ⟨g, 0, none⟩), .int .i64 4] V fun e w' => e = .returned (.string (bsT (Ip.join (m.take 4)))) ∧ OwnAt V.heap.size V w' g (rdB (restT (m.drop 4)))) := Lib.hid (fun V hV => take_any g 4 m V hV (fun q hq => HL.out.1 q (by simp [hq])) (by have := HL.out.2; rw [restT_cons, List.length_append, List.length_cons] at this; omega) (by omega))
      have HG : Hid (∀ V, Calls Tryz.prog 65 #[.int .i64 (cs.length : Nat)] V fun e w' => e = .returned (.string (bsT (glue cs.length))) ∧ Below V.heap.size V w') := Lib.hid (fun V => popening_any cs.length V (by omega))
      obtain ⟨P, hP⟩ : ∃ P, P = bsT p := ⟨_, rfl⟩
      rw [← hP] at HTK
      obtain ⟨G, hG⟩ : ∃ G, G = bsT (glue cs.length) := ⟨_, rfl⟩
      rw [← hG] at HG
      have HPe := Lib.hid hP
      have HGe := Lib.hid hG
      clear hP hG
      have hw1 : w.heap.size ≤ w1.heap.size := HA1.out.size
      go_wp2_with fail
      refine (HTK.out _ HA1.out.row).mono ?_
      rintro e w2 ⟨rfl, hA2⟩
      have HA2 := Lib.hid (HA1.out.trans hA2 hw1)
      have HO2 := Lib.hid (hA2.own HO1.out hglt (Nat.le_refl _))
      have hw2 : w.heap.size ≤ w2.heap.size := HA2.out.size
      clear hA2 HA1 HO1 HTK
      go_wp2_with fail
      refine (HG.out _).mono ?_
      rintro e w3 ⟨rfl, hb3⟩
      have HA3 := Lib.hid (HA2.out.next hb3 (Nat.le_refl _))
      have HO3 := Lib.hid (own_below HO2.out hb3)
      have hw3 : w.heap.size ≤ w3.heap.size := HA3.out.size
      clear hb3 HA2 HO2 HG
      cases hq : (P.toList == G.toList)
      · have HE : Hid (PP (.returned (.tuple #[.slice none 0 0, .bool false])) w3) := Lib.hid (by
          rw [HPP.out]
          refine condsNo (noConds_word HW.out HC.out rfl fun e => ?_) HA3.out
          rw [HPe.out, HGe.out, e] at hq
          simp at hq)
        go_wp2_with fail
        exact HE.out
      have HPG : Hid (p = glue cs.length) := Lib.hid (by
        have h := beq_iff_eq.1 hq
        rw [Go.ByteArray.toList_eq, Go.ByteArray.toList_eq, HPe.out, HGe.out] at h
        exact h)
      go_wp2_with fail
      refine (HTK4.out _ HA3.out.row).mono ?_
      rintro e w4 ⟨rfl, hA4⟩
      have HA4 := Lib.hid (HA3.out.trans hA4 hw3)
      have HO4 := Lib.hid (hA4.own HO3.out hglt (Nat.le_refl _))
      have hw4 : w.heap.size ≤ w4.heap.size := HA4.out.size
      clear hA4 HA3 HO3 HTK4
      have HQP : Hid (Calls Tryz.prog 66 #[.string (bsT (Ip.join (m.take 4)))] w4 fun e w' => QPEnd (bsT (Ip.join (m.take 4))) e ∧ Below w4.heap.size w4 w') := Lib.hid (qparse_any _ w4 (by
        have h1 := join_take_le m 4
        have h2 := HL.out.2
        rw [restT_cons, List.length_append, List.length_cons] at h2
        show (Ip.join (m.take 4)).length ≤ _
        omega) (HT.out.own HG0.out HA4.out (Nat.le_refl _)))
      have HTX : Hid (∀ d : Cd, Ip.join (m.take 4) = textQ d ↔ bsT (Ip.join (m.take 4)) = textT d) := Lib.hid (fun d => ⟨fun e => by rw [e]; rfl, fun e => bsT_inj e⟩)
      have hfm : freeW (p :: m) := HL.out.1
      have HFM := Lib.hid hfm
      clear hfm
      generalize bsT (Ip.join (m.take 4)) = T at *
      go_wp2_with fail
      refine HQP.out.mono ?_
      rintro e w5 ⟨hE, hb5⟩
      have HA5 := Lib.hid (HA4.out.next hb5 (Nat.le_refl _))
      have HO5 := Lib.hid (own_below HO4.out hb5)
      clear hb5 HA4 HO4 HQP hq hb4
      rcases hE with ⟨c, hck, hcr, hct, rfl⟩ | ⟨hno, rfl⟩
      rotate_left
      · have HE : Hid (PP (.returned (.tuple #[.slice none 0 0, .bool false])) (w5.alloc (cdB zeroCd))) := Lib.hid (by
          rw [HPP.out]
          exact condsNo (noConds_text HW.out HC.out rfl fun d hd hr e => hno d hd hr ((HTX.out d).1 e)) (HA5.out.next (ba _ (Below.refl _ _)) (Nat.le_refl _)))
        clear hno
        go_wp2_with fail
        exact HE.out
      have HW2 : Hid (ws = condsW 0 (cs ++ [c]) ++ m.drop 4) := Lib.hid (conds_more HW.out HFM.out rfl HPG.out hcr ((HTX.out c).2 hct))
      have HC2 : Hid (∀ d ∈ cs ++ [c], d.ok ∧ d.right = true) := Lib.hid (fun d hd => by
        rcases List.mem_append.1 hd with hd | hd
        · exact HC.out d hd
        · rw [List.mem_singleton.1 hd]
          exact ⟨hck, hcr⟩)
      have hw5 : w.heap.size ≤ w5.heap.size := HA5.out.size
      clear hck hcr hct HTX
      go_upto_region 8 with fail
      obtain ⟨W6, hW6⟩ : ∃ V, V = w5.alloc (cdB c) := ⟨_, rfl⟩
      have hb6 : Below w5.heap.size w5 W6 := by rw [hW6]; exact ba _ (Below.refl _ _)
      have HX6 : Hid (W6.heap[w5.heap.size]? = some (cdB c)) := Lib.hid (by rw [hW6]; exact heap_alloc_new w5 _)
      have HA6 := Lib.hid (HA5.out.next hb6 (Nat.le_refl _))
      have HO6 := Lib.hid (own_below HO5.out hb6)
      have hw6 : w.heap.size ≤ W6.heap.size := HA6.out.size
      have hgc : w5.heap.size < W6.heap.size := lt_of_block HX6.out
      change Code.wp _ _ _ _ (w5.alloc (cdB c))
      rw [← hW6]
      clear hW6 hb6 HA5 HO5
      generalize w5.heap.size = gc at *
      obtain ⟨k0, k1, k2, k3⟩ := cdX HX6.out
      go_wp2_with (at_builtin; refine wpList_append_own _ rfl _ _ 26 rfl w.heap.size 49 i0 (.agg #[.int .i64 0, .int .i64 0, .int .u64 0, .int .u64 0]) 4 32 Tryz.underlying26 hi hz0 hz1 hz2 rfl (by decide) _ _ _ rfl (HO6.out.alloc _) ⟨W6.heap.size, 0, none⟩ 1 1 (V4.cells (cdQ c)) rfl rfl (new_at W6 #[.int .i64 c.arg, .int .i64 c.cmp, .int .u64 (c.mask : Nat), .int .u64 (c.value : Nat)] 49) (by simp [Value.oneCell']) (by unfold maxLen; omega) (by omega) (by rw [size_alloc]; omega) ?_)
      intro v7 w7 hown hgrow _
      have HA7 := Lib.hid ((HA6.out.next (ba _ (Below.refl _ _)) (Nat.le_refl _)).grown (HO6.out.alloc _) hgrow (by rw [size_alloc]; omega) (Nat.le_refl _) hglt)
      have HO7 : Hid (w7.ownsRow w.heap.size 49 4 v7 (cs ++ [c]).length (qcells ((cs ++ [c]).map cdQ))) := Lib.hid (by
        rw [qcells_snoc, List.length_append, List.length_singleton]
        exact hown)
      clear hown hgrow HA6 HO6 k0 k1 k2 k3 HX6
      go_wp2_with fail
      go_roundg (gk - 1)
      case measure => omega
      case rel => exact ⟨cs ++ [c], m.drop 4, by rw [List.length_append, List.length_singleton]; omega, by rw [List.length_append, List.length_singleton]; omega, HW2, HC2, HO7, HA7⟩
end Go.Proofs.YtbhondjfilohdaaGreatDoor
/-
  Package policy: what is read of a line.
-/
namespace Go.Proofs.YtbhondjfilohdaaGreatDoor
open Go.ChangeShapes Go.WideShapes Go.ChangeAt Go.RowKit
set_option maxRecDepth 20000

theorem bsT_list (l : List UInt8) : (bsT l).toList = l := by
  rw [Go.ByteArray.toList_eq]
/-- What comes of a line that ought to be the default's. -/
def PDEnd (p : List UInt8) (e : Ending) : Prop := e = .returned (.tuple #[.int .u32 ((readD p).getD 0 : Nat), .bool (readD p).isSome])
theorem pdNo {p : List UInt8} (h : readD p = none) : PDEnd p (.returned (.tuple #[.int .u32 0, .bool false])) := by
  unfold PDEnd
  rw [h]
  rfl
theorem pdYes {p : List UInt8} {v : Nat} (h : readD p = some v) : PDEnd p (.returned (.tuple #[.int .u32 (v : Nat), .bool true])) := by
  unfold PDEnd
  rw [h]
  rfl
set_option maxHeartbeats 8000000 in
theorem preaddef_any (s : ByteArray) (w : World) (hs : s.size ≤ 50000) (ht : Tab w) :
    Calls Tryz.prog 32 #[.string s] w fun e w' => PDEnd s.data.toList e ∧ Below w.heap.size w w' := by
  obtain ⟨p, hp⟩ : ∃ p, p = s.data.toList := ⟨_, rfl⟩
  obtain ⟨ws, hws⟩ : ∃ ws, ws = Ip.cutAll 32 [] p := ⟨_, rfl⟩
  have hf : freeW ws := by rw [hws]; exact freeW_cut p
  have hz : (restT ws).length ≤ 100000 := by
    rw [hws, ← restT_line, List.length_append, hp]
    show s.size + 1 ≤ _
    omega
  have HWO : Hid (∀ V : World, Calls Tryz.prog 39 #[.string s] V fun e w' => e = .returned (.agg #[.string (bsT (restT ws))]) ∧ Below V.heap.size V w') := Lib.hid (fun V => by
    rw [hws, hp]
    exact wordsof_any s V (by omega))
  have HNO : Hid (∀ v : Nat, p = lineD v → wordN ws 0 = wDefault ∧ wordN ws 1 = bl (actB v) ∧ ws.drop 2 = []) := Lib.hid (fun v h => def_no hws h)
  have HYES : Hid (∀ v : Nat, wordN ws 0 = wDefault → wordN ws 1 = bl (actB v) → (actT v).isSome = true → ws.drop 2 = [] → p = lineD v) := Lib.hid (fun v h0 h1 hv h2 => def_is hws h0 h1 hv h2)
  have HF := Lib.hid hf
  have HZ := Lib.hid hz
  have HT := Lib.hid ht
  have z1 := word_size ws 1 hz
  rw [← hp]
  obtain ⟨PP, hPP⟩ : ∃ PP : Ending → World → Prop, PP = fun e w' => PDEnd p e ∧ Below w.heap.size w w' := ⟨_, rfl⟩
  have HPP := Lib.hid hPP
  rw [← hPP]
  clear hp hws hf hz ht hs hPP
  go_enter Tryz.func32, Tryz.ntmps32
  go_wp2_with fail
  refine (HWO.out _).mono ?_
  rintro e w1 ⟨rfl, hb1⟩
  have HB1 := Lib.hid hb1
  clear hb1 HWO
  go_upto_region 2 with fail
  obtain ⟨W2, hW2⟩ : ∃ V, V = w1.alloc (rdB (restT ws)) := ⟨_, rfl⟩
  have HB2 : Hid (Below w.heap.size w W2) := Lib.hid (by rw [hW2]; exact ba _ HB1.out)
  have HR2 : Hid (W2.heap[w1.heap.size]? = some (rdB (restT (ws.drop 0)))) := Lib.hid (by rw [hW2, List.drop_zero]; exact heap_alloc_new w1 _)
  have hg : w.heap.size ≤ w1.heap.size := HB1.out.size
  change Code.wp _ _ _ _ (w1.alloc (rdB (restT ws)))
  rw [← hW2]
  clear hW2 HB1
  generalize w1.heap.size = g at *
  have HT0 : Hid (∀ V, V.heap[g]? = some (rdB (restT (ws.drop 0))) → Calls Tryz.prog 40 #[.pointer (some ⟨g, 0, none⟩), .int .i64 1] V fun e w' => e = .returned (.string (bsT (wordN ws 0))) ∧ OwnAt V.heap.size V w' g (rdB (restT (ws.drop 1)))) := Lib.hid (fun V hV => take_at 0 g ws V hV HF.out HZ.out)
  have HT1 : Hid (∀ V, V.heap[g]? = some (rdB (restT (ws.drop 1))) → Calls Tryz.prog 40 #[.pointer (some ⟨g, 0, none⟩), .int .i64 1] V fun e w' => e = .returned (.string (bsT (wordN ws 1))) ∧ OwnAt V.heap.size V w' g (rdB (restT (ws.drop 2)))) := Lib.hid (fun V hV => take_at 1 g ws V hV HF.out HZ.out)
  obtain ⟨S0, hS0⟩ : ∃ S, S = bsT (wordN ws 0) := ⟨_, rfl⟩
  obtain ⟨S1, hS1⟩ : ∃ S, S = bsT (wordN ws 1) := ⟨_, rfl⟩
  rw [← hS0] at HT0
  rw [← hS1] at HT1 z1
  have HS0 := Lib.hid hS0
  have HS1 := Lib.hid hS1
  clear hS0 hS1
  go_wp2_with fail
  refine (HT0.out _ HR2.out).mono ?_
  rintro e w3 ⟨rfl, hA3⟩
  have HB3 := Lib.hid (hA3.below HB2.out HB2.out.size hg)
  have HR3 := Lib.hid hA3.row
  clear hA3 HB2 HR2 HT0
  go_wp2_with fail
  refine (HT1.out _ HR3.out).mono ?_
  rintro e w4 ⟨rfl, hA4⟩
  have HB4 := Lib.hid (hA4.below HB3.out HB3.out.size hg)
  have HR4 := Lib.hid hA4.row
  clear hA4 HB3 HR3 HT1
  have HRA : Hid (Calls Tryz.prog 41 #[.string S1] w4 fun e w' => PAEnd S1 e ∧ Below w4.heap.size w4 w') := Lib.hid (nreadaction_any S1 w4 (by omega) (HT.out.below HB4.out))
  go_wp2_with fail
  refine HRA.out.mono ?_
  rintro e w5 ⟨⟨o, ho, rfl⟩, hb5⟩
  have HB5 := Lib.hid (below2 HB4.out hb5)
  have HR5 := Lib.hid (kb hb5 HR4.out)
  have HO := Lib.hid ho
  clear hb5 ho HB4 HR4 HRA z1
  have HD : Hid (readD p = none → PP (.returned (.tuple #[.int .u32 0, .bool false])) w5) := Lib.hid (fun h => by rw [HPP.out]; exact ⟨pdNo h, HB5.out⟩)
  cases hq : (S0.toList == ([100, 101, 102, 97, 117, 108, 116] : List UInt8))
  · have HE := Lib.hid (HD.out (readD_is_none fun v _ _ e => by
      have h := (HNO.out v e).1
      rw [HS0.out, bsT_list, h] at hq
      revert hq
      decide))
    generalize (if o.isSome = true then (0 : Int) else 2) = er at *
    generalize o.getD 0 = vv at *
    go_wp2_with fail
    exact HE.out
  have HW0 : Hid (wordN ws 0 = wDefault) := Lib.hid (by
    have h := beq_iff_eq.1 hq
    rw [HS0.out, bsT_list] at h
    exact h)
  cases o with
  | none =>
    have HE := Lib.hid (HD.out (readD_is_none fun v hv hsm e => by
      have h := (HNO.out v e).2.1
      obtain ⟨t, ht⟩ := Option.isSome_iff_exists.1 hsm
      refine (HO.out : ∀ v : Nat, v < 4294967296 → actT v ≠ some S1) v hv ?_
      rw [HS1.out, h, ht]
      unfold actB
      rw [ht]
      rfl))
    go_wp2_with fail
    exact HE.out
  | some v =>
    have hv : v < 4294967296 ∧ actT v = some S1 := HO.out
    have HW1 : Hid (wordN ws 1 = bl (actB v)) := Lib.hid (by
      unfold actB
      rw [hv.2, HS1.out]
      rfl)
    have HV := Lib.hid hv
    have HM : Hid (Calls Tryz.prog 42 #[.pointer (some ⟨g, 0, none⟩)] w5 fun e w' => e = .returned (.bool (!(ws.drop 2).isEmpty)) ∧ Below w5.heap.size w5 w') := Lib.hid (more_any g (ws.drop 2) w5 HR5.out)
    clear hv
    cases hd : ws.drop 2 with
    | nil =>
      have HE : Hid (readD p = some v) := Lib.hid (by
        rw [HYES.out v HW0.out HW1.out (by rw [HV.out.2]; rfl) hd]
        exact readD_line HV.out.1 (by rw [HV.out.2]; rfl))
      rw [hd] at HM
      clear hd
      go_wp2_with fail
      refine HM.out.mono ?_
      rintro e w6 ⟨rfl, hb6⟩
      have HE2 : Hid (PP (.returned (.tuple #[.int .u32 (v : Nat), .bool true])) w6) := Lib.hid (by rw [HPP.out]; exact ⟨pdYes HE.out, below2 HB5.out hb6⟩)
      clear hb6
      go_wp2_with fail
      exact HE2.out
    | cons q l =>
      have HE : Hid (readD p = none) := Lib.hid (readD_is_none fun v' _ _ e => by
        have h := (HNO.out v' e).2.2
        rw [hd] at h
        cases h)
      rw [hd] at HM
      clear hd
      go_wp2_with fail
      refine HM.out.mono ?_
      rintro e w6 ⟨rfl, hb6⟩
      have HE2 : Hid (PP (.returned (.tuple #[.int .u32 0, .bool false])) w6) := Lib.hid (by rw [HPP.out]; exact ⟨pdNo HE.out, below2 HB5.out hb6⟩)
      clear hb6
      go_wp2_with fail
      exact HE2.out
set_option maxHeartbeats 16000000 in
theorem preadrule_any (s : ByteArray) (w : World) (hs : s.size ≤ 50000) (ht : Tab w) :
    Calls Tryz.prog 33 #[.string s] w fun e w' => PReadEnd s.data.toList w.heap.size w' e ∧ Below w.heap.size w w' := by
  obtain ⟨p, hp⟩ : ∃ p, p = s.data.toList := ⟨_, rfl⟩
  obtain ⟨ws, hws⟩ : ∃ ws, ws = Ip.cutAll 32 [] p := ⟨_, rfl⟩
  have hf : freeW ws := by rw [hws]; exact freeW_cut p
  have hz : (restT ws).length ≤ 100000 := by
    rw [hws, ← restT_line, List.length_append, hp]
    show s.size + 1 ≤ _
    omega
  have HWO : Hid (∀ V : World, Calls Tryz.prog 39 #[.string s] V fun e w' => e = .returned (.agg #[.string (bsT (restT ws))]) ∧ Below V.heap.size V w') := Lib.hid (fun V => by
    rw [hws, hp]
    exact wordsof_any s V (by omega))
  have HNO : Hid (∀ y : Rl, y.right = true → p = lineL y → wordN ws 0 = wOn ∧ wordN ws 1 = bl (textN machT y.arch) ∧ wordN ws 2 = bl (textN (callT y.arch) y.nr) ∧ wordN ws 3 = bl (actB y.act) ∧ ws.drop 4 = condsW 0 y.conds) := Lib.hid (fun y hy h => rule_no hws hy h)
  have HYES : Hid (∀ (a n v : Nat) (cs : List Cd), wordN ws 0 = wOn → wordN ws 1 = bl (textN machT a) → wordN ws 2 = bl (textN (callT a) n) → wordN ws 3 = bl (actB v) → (actT v).isSome = true → ws.drop 4 = condsW 0 cs → cs.length ≤ 4 → (∀ c ∈ cs, c.right = true) → p = lineL ⟨a, n, v, cs⟩) := Lib.hid (fun a n v cs h0 h1 h2 h3 hv hc h4 hcs => rule_of hws h0 h1 h2 h3 hv hc h4 hcs)
  have HF := Lib.hid hf
  have HZ := Lib.hid hz
  have HT := Lib.hid ht
  have z1 := word_size ws 1 hz
  have z2 := word_size ws 2 hz
  have z3 := word_size ws 3 hz
  have hzb := heap_alloc_new w (rlB zeroRl (.slice none 0 0))
  have HB0 := Lib.hid (ba (rlB zeroRl (.slice none 0 0)) (Below.refl w.heap.size w))
  obtain ⟨W, hW⟩ : ∃ W, W = w.alloc (rlB zeroRl (.slice none 0 0)) := ⟨_, rfl⟩
  rw [← hW] at hzb HB0
  have HZ0 := Lib.hid hzb
  rw [← hp]
  clear hp hws hf hz ht hs hzb
  go_enter Tryz.func33, Tryz.ntmps33
  obtain ⟨Q, hQ⟩ : ∃ Q, Q = bodyPost Tryz.prog Tryz.f33 (fun e w' => PReadEnd p w.heap.size w' e ∧ Below w.heap.size w w') := ⟨_, rfl⟩
  rw [← hQ]
  have HQ0 := Lib.hid hQ
  clear hQ
  go_upto_region 1 with fail
  change Code.wp _ _ _ _ (w.alloc (rlB zeroRl (.slice none 0 0)))
  rw [← hW]
  clear hW
  go_wp2_with fail
  refine (HWO.out _).mono ?_
  rintro e w1 ⟨rfl, hb1⟩
  have HB1 := Lib.hid (below2 HB0.out hb1)
  have HZ1 := Lib.hid (kb hb1 HZ0.out)
  clear hb1 HWO HB0 HZ0
  go_upto_region 2 with fail
  obtain ⟨W2, hW2⟩ : ∃ V, V = w1.alloc (rdB (restT ws)) := ⟨_, rfl⟩
  have HB2 : Hid (Below w.heap.size w W2) := Lib.hid (by rw [hW2]; exact ba _ HB1.out)
  have HZ2 : Hid (W2.heap[w.heap.size]? = some (rlB zeroRl (.slice none 0 0))) := Lib.hid (by rw [hW2]; exact ka _ HZ1.out)
  have HR2 : Hid (W2.heap[w1.heap.size]? = some (rdB (restT (ws.drop 0)))) := Lib.hid (by rw [hW2, List.drop_zero]; exact heap_alloc_new w1 _)
  have hg : w.heap.size < w1.heap.size := lt_of_block HZ1.out
  change Code.wp _ _ _ _ (w1.alloc (rdB (restT ws)))
  rw [← hW2]
  clear hW2 HB1 HZ1
  generalize w1.heap.size = g at *
  have HTK : Hid (∀ k V, V.heap[g]? = some (rdB (restT (ws.drop k))) → Calls Tryz.prog 40 #[.pointer (some ⟨g, 0, none⟩), .int .i64 1] V fun e w' => e = .returned (.string (bsT (wordN ws k))) ∧ OwnAt V.heap.size V w' g (rdB (restT (ws.drop (k + 1))))) := Lib.hid (fun k V hV => take_at k g ws V hV HF.out HZ.out)
  obtain ⟨S0, hS0⟩ : ∃ S, S = bsT (wordN ws 0) := ⟨_, rfl⟩
  obtain ⟨S1, hS1⟩ : ∃ S, S = bsT (wordN ws 1) := ⟨_, rfl⟩
  obtain ⟨S2, hS2⟩ : ∃ S, S = bsT (wordN ws 2) := ⟨_, rfl⟩
  obtain ⟨S3, hS3⟩ : ∃ S, S = bsT (wordN ws 3) := ⟨_, rfl⟩
  have HT0 := Lib.hid (HTK.out 0)
  have HT1 := Lib.hid (HTK.out 1)
  have HT2 := Lib.hid (HTK.out 2)
  have HT3 := Lib.hid (HTK.out 3)
  rw [← hS0] at HT0
  rw [← hS1] at HT1 z1
  rw [← hS2] at HT2 z2
  rw [← hS3] at HT3 z3
  have HS0 := Lib.hid hS0
  have HS1 := Lib.hid hS1
  have HS2 := Lib.hid hS2
  have HS3 := Lib.hid hS3
  clear hS0 hS1 hS2 hS3 HTK
  go_wp2_with fail
  refine (HT0.out _ HR2.out).mono ?_
  rintro e w3 ⟨rfl, hA3⟩
  have HB3 := Lib.hid (hA3.below HB2.out HB2.out.size (Nat.le_of_lt hg))
  have HZ3 := Lib.hid (hA3.keep (by omega) (lt_of_block HZ2.out) HZ2.out)
  have HR3 := Lib.hid hA3.row
  clear hA3 HB2 HR2 HT0 HZ2
  go_wp2_with fail
  refine (HT1.out _ HR3.out).mono ?_
  rintro e w4 ⟨rfl, hA4⟩
  have HB4 := Lib.hid (hA4.below HB3.out HB3.out.size (Nat.le_of_lt hg))
  have HZ4 := Lib.hid (hA4.keep (by omega) (lt_of_block HZ3.out) HZ3.out)
  have HR4 := Lib.hid hA4.row
  clear hA4 HB3 HR3 HT1 HZ3
  have HRM : Hid (Calls Tryz.prog 43 #[.string S1] w4 fun e w' => PNEnd machT S1 e ∧ Below w4.heap.size w4 w') := Lib.hid (nreadmachine_any S1 w4 (by omega) (HT.out.below HB4.out))
  go_wp2_with fail
  refine HRM.out.mono ?_
  rintro e w5 ⟨⟨o1, ho1, rfl⟩, hb5⟩
  have HO1 := Lib.hid ho1
  have HB5 := Lib.hid (below2 HB4.out hb5)
  have HZ5 := Lib.hid (kb hb5 HZ4.out)
  have HR5 := Lib.hid (kb hb5 HR4.out)
  have ha : o1.getD 0 < 4294967296 := by
    cases o1 with
    | none => decide
    | some n => exact (ho1 : n < 4294967296 ∧ S1 = textN machT n).1
  clear hb5 HB4 HZ4 HR4 HRM ho1
  obtain ⟨a, hae⟩ : ∃ a, a = o1.getD 0 := ⟨_, rfl⟩
  obtain ⟨er1, her1⟩ : ∃ er : Int, er = if o1.isSome = true then (0 : Int) else 2 := ⟨_, rfl⟩
  rw [← hae] at ha ⊢
  rw [← her1]
  have HAE := Lib.hid hae
  have HER1 := Lib.hid her1
  clear hae her1
  go_wp2_with fail
  refine (HT2.out _ HR5.out).mono ?_
  rintro e w6 ⟨rfl, hA6⟩
  have HB6 := Lib.hid (hA6.below HB5.out HB5.out.size (Nat.le_of_lt hg))
  have HZ6 := Lib.hid (hA6.keep (by omega) (lt_of_block HZ5.out) HZ5.out)
  have HR6 := Lib.hid hA6.row
  clear hA6 HB5 HR5 HT2 HZ5
  have HRC : Hid (Calls Tryz.prog 44 #[.int .u32 (a : Nat), .string S2] w6 fun e w' => PNEnd (callT a) S2 e ∧ Below w6.heap.size w6 w') := Lib.hid (nreadcall_any a S2 w6 ha (by omega) (HT.out.below HB6.out))
  go_wp2_with fail
  refine HRC.out.mono ?_
  rintro e w7 ⟨⟨o2, ho2, rfl⟩, hb7⟩
  have HO2 := Lib.hid ho2
  have HB7 := Lib.hid (below2 HB6.out hb7)
  have HZ7 := Lib.hid (kb hb7 HZ6.out)
  have HR7 := Lib.hid (kb hb7 HR6.out)
  have hn : o2.getD 0 < 4294967296 := by
    cases o2 with
    | none => decide
    | some n => exact (ho2 : n < 4294967296 ∧ S2 = textN (callT a) n).1
  clear hb7 HB6 HZ6 HR6 HRC ho2
  obtain ⟨n, hne⟩ : ∃ n, n = o2.getD 0 := ⟨_, rfl⟩
  obtain ⟨er2, her2⟩ : ∃ er : Int, er = if o2.isSome = true then (0 : Int) else 2 := ⟨_, rfl⟩
  rw [← hne] at hn ⊢
  rw [← her2]
  have HNE := Lib.hid hne
  have HER2 := Lib.hid her2
  clear hne her2
  go_wp2_with fail
  refine (HT3.out _ HR7.out).mono ?_
  rintro e w8 ⟨rfl, hA8⟩
  have HB8 := Lib.hid (hA8.below HB7.out HB7.out.size (Nat.le_of_lt hg))
  have HZ8 := Lib.hid (hA8.keep (by omega) (lt_of_block HZ7.out) HZ7.out)
  have HR8 := Lib.hid hA8.row
  clear hA8 HB7 HR7 HT3 HZ7
  have HRA : Hid (Calls Tryz.prog 41 #[.string S3] w8 fun e w' => PAEnd S3 e ∧ Below w8.heap.size w8 w') := Lib.hid (nreadaction_any S3 w8 (by omega) (HT.out.below HB8.out))
  go_wp2_with fail
  refine HRA.out.mono ?_
  rintro e w9 ⟨⟨o3, ho3, rfl⟩, hb9⟩
  have HO3 := Lib.hid ho3
  have HB9 := Lib.hid (below2 HB8.out hb9)
  have HZ9 := Lib.hid (kb hb9 HZ8.out)
  have HR9 := Lib.hid (kb hb9 HR8.out)
  have hv : o3.getD 0 < 4294967296 := by
    cases o3 with
    | none => decide
    | some n => exact (ho3 : n < 4294967296 ∧ actT n = some S3).1
  clear hb9 HB8 HZ8 HR8 HRA ho3 z1 z2 z3
  obtain ⟨v, hve⟩ : ∃ v, v = o3.getD 0 := ⟨_, rfl⟩
  obtain ⟨er3, her3⟩ : ∃ er : Int, er = if o3.isSome = true then (0 : Int) else 2 := ⟨_, rfl⟩
  rw [← hve] at hv ⊢
  rw [← her3]
  have HVE := Lib.hid hve
  have HER3 := Lib.hid her3
  clear hve her3
  have hzlt : w.heap.size < w9.heap.size := lt_of_block HZ9.out
  have r0 := cell_in HZ9.out 0
  have r1 := cell_in HZ9.out 1
  have r2 := cell_in HZ9.out 2
  have r3 := cell_in HZ9.out 3
  have f0 := free_in HZ9.out 0
  have f1 := free_in HZ9.out 1
  have f2 := free_in HZ9.out 2
  have f3 := free_in HZ9.out 3
  cases hq : (S0.toList == ([111, 110] : List UInt8))
  · have HE : Hid (readR p = none) := Lib.hid (readR_is_none fun y _ hr e => by
      have h := (HNO.out y hr e).1
      rw [HS0.out, bsT_list, h] at hq
      revert hq
      decide)
    go_wp2_with fail
    (try simp only [Exit.inBlock, Exit.then])
    rw [HQ0.out]
    refine bodyPost_ret (v := .tuple #[.agg #[.int .u32 0, .int .u32 0, .slice none 0 0, .int .u32 0], .bool false]) ?_ rfl ⟨?_, ?_⟩
    · rw [results_cell_tmp rfl]
      go_simp
    · exact preadNo HE.out
    · have hB := HB9.out
      go_grown
  have HW0 : Hid (wordN ws 0 = wOn) := Lib.hid (by
    have h := beq_iff_eq.1 hq
    rw [HS0.out, bsT_list] at h
    exact h)
  cases o1 with
  | none =>
    have HE : Hid (readR p = none) := Lib.hid (readR_is_none fun y hk hr e => by
      refine (HO1.out : ∀ n : Nat, n < 4294967296 → S1 ≠ textN machT n) y.arch hk.1 ?_
      rw [HS1.out, (HNO.out y hr e).2.1]
      rfl)
    obtain rfl : er1 = 2 := by have := HER1.out; simpa using this
    go_wp2_with fail
    (try simp only [Exit.inBlock, Exit.then])
    rw [HQ0.out]
    refine bodyPost_ret (v := .tuple #[.agg #[.int .u32 0, .int .u32 0, .slice none 0 0, .int .u32 0], .bool false]) ?_ rfl ⟨?_, ?_⟩
    · rw [results_cell_tmp rfl]
      go_simp
    · exact preadNo HE.out
    · have hB := HB9.out
      go_grown
  | some a' =>
    obtain rfl : a' = a := HAE.out.symm
    obtain rfl : er1 = 0 := by have := HER1.out; simpa using this
    have HW1 : Hid (wordN ws 1 = bl (textN machT a')) := Lib.hid (by
      have h := (HO1.out : a' < 4294967296 ∧ S1 = textN machT a').2
      rw [HS1.out] at h
      rw [← h]
      rfl)
    have HYA : Hid (∀ y : Rl, y.right = true → p = lineL y → y.arch = a') := Lib.hid (fun y hr e => by
      have h := (HNO.out y hr e).2.1
      rw [HW1.out] at h
      exact (textN_inj machT_good (bl_inj h)).symm)
    cases o2 with
    | none =>
      have HE : Hid (readR p = none) := Lib.hid (readR_is_none fun y hk hr e => by
        refine (HO2.out : ∀ n : Nat, n < 4294967296 → S2 ≠ textN (callT a') n) y.nr hk.2.1 ?_
        rw [HS2.out, (HNO.out y hr e).2.2.1, HYA.out y hr e]
        rfl)
      obtain rfl : er2 = 2 := by have := HER2.out; simpa using this
      go_wp2_with fail
      (try simp only [Exit.inBlock, Exit.then])
      rw [HQ0.out]
      refine bodyPost_ret (v := .tuple #[.agg #[.int .u32 0, .int .u32 0, .slice none 0 0, .int .u32 0], .bool false]) ?_ rfl ⟨?_, ?_⟩
      · rw [results_cell_tmp rfl]
        go_simp
      · exact preadNo HE.out
      · have hB := HB9.out
        go_grown
    | some n' =>
      obtain rfl : n' = n := HNE.out.symm
      obtain rfl : er2 = 0 := by have := HER2.out; simpa using this
      have HW2 : Hid (wordN ws 2 = bl (textN (callT a') n')) := Lib.hid (by
        have h := (HO2.out : n' < 4294967296 ∧ S2 = textN (callT a') n').2
        rw [HS2.out] at h
        rw [← h]
        rfl)
      cases o3 with
      | none =>
        have HE : Hid (readR p = none) := Lib.hid (readR_is_none fun y hk hr e => by
          obtain ⟨t, ht⟩ := Option.isSome_iff_exists.1 (right_conds hr).2.1
          refine (HO3.out : ∀ v : Nat, v < 4294967296 → actT v ≠ some S3) y.act hk.2.2.1 ?_
          rw [HS3.out, (HNO.out y hr e).2.2.2.1, ht]
          unfold actB
          rw [ht]
          rfl)
        obtain rfl : er3 = 2 := by have := HER3.out; simpa using this
        go_wp2_with fail
        (try simp only [Exit.inBlock, Exit.then])
        rw [HQ0.out]
        refine bodyPost_ret (v := .tuple #[.agg #[.int .u32 0, .int .u32 0, .slice none 0 0, .int .u32 0], .bool false]) ?_ rfl ⟨?_, ?_⟩
        · rw [results_cell_tmp rfl]
          go_simp
        · exact preadNo HE.out
        · have hB := HB9.out
          go_grown
      | some v' =>
        obtain rfl : v' = v := HVE.out.symm
        obtain rfl : er3 = 0 := by have := HER3.out; simpa using this
        have HAV : Hid (actT v' = some S3) := Lib.hid (HO3.out : v' < 4294967296 ∧ actT v' = some S3).2
        have HW3 : Hid (wordN ws 3 = bl (actB v')) := Lib.hid (by
          unfold actB
          rw [HAV.out, HS3.out]
          rfl)
        have HCO : Hid (Calls Tryz.prog 45 #[.pointer (some ⟨g, 0, none⟩)] w9 (CondsPost (ws.drop 4) g w9)) := Lib.hid (conds_any g (ws.drop 4) w9 HR9.out (freeW_drop HF.out 4) (Nat.le_trans (restT_drop_le ws 4) HZ.out) (HT.out.below HB9.out))
        clear r0 r1 r2 r3 f0 f1 f2 f3
        go_wp2_with fail
        refine HCO.out.mono ?_
        rintro e w10 ⟨hE, o, hA10⟩
        have HB10 := Lib.hid (hA10.below HB9.out HB9.out.size (Nat.le_of_lt hg))
        have HZ10 := Lib.hid (hA10.keep (by omega) (lt_of_block HZ9.out) HZ9.out)
        have hs9 : w.heap.size < w9.heap.size := hzlt
        clear hA10 HB9 HR9 HZ9 HCO hzlt
        have hzlt : w.heap.size < w10.heap.size := lt_of_block HZ10.out
        have r0 := cell_in HZ10.out 0
        have r1 := cell_in HZ10.out 1
        have r2 := cell_in HZ10.out 2
        have r3 := cell_in HZ10.out 3
        have f0 := free_in HZ10.out 0
        have f1 := free_in HZ10.out 1
        have f2 := free_in HZ10.out 2
        have f3 := free_in HZ10.out 3
        rcases hE with ⟨cs, cv, hcs, hc4, hcr, hown, rfl⟩ | ⟨hno, rfl⟩
        rotate_left
        · have HE : Hid (readR p = none) := Lib.hid (readR_is_none fun y hk hr e => by
            obtain ⟨hy4, _, hyr⟩ := right_conds hr
            exact hno y.conds hy4 (fun c hc => ⟨hk.2.2.2 c hc, hyr c hc⟩) (HNO.out y hr e).2.2.2.2)
          clear hno
          go_wp2_with fail
          (try simp only [Exit.inBlock, Exit.then])
          rw [HQ0.out]
          refine bodyPost_ret (v := .tuple #[.agg #[.int .u32 0, .int .u32 0, .slice none 0 0, .int .u32 0], .bool false]) ?_ rfl ⟨?_, ?_⟩
          · rw [results_cell_tmp rfl]
            go_simp
          · exact preadNo HE.out
          · have hB := HB10.out
            go_grown
        have hline : p = lineL ⟨a', n', v', cs⟩ := HYES.out a' n' v' cs HW0.out HW1.out HW2.out HW3.out (by rw [HAV.out]; rfl) hcs hc4 (fun c hc => (hcr c hc).2)
        have hrd : readR p = some ⟨a', n', v', cs⟩ := by
          rw [hline]
          exact readR_line ⟨ha, hn, hv, fun c hc => (hcr c hc).1⟩ (rl_right hc4 (by show (actT v').isSome = true; rw [HAV.out]; rfl) (fun c hc => (hcr c hc).2))
        obtain ⟨ao, cap, rfl⟩ := own_shape hown
        have hput := put_four HZ10.out a' n' v' cs (.slice ao cs.length cap)
        have HFIN : Hid (PReadEnd p w.heap.size ((((w10.setCell ⟨w.heap.size, 0, none⟩ (.int .u32 (a' : Nat))).setCell ⟨w.heap.size, 1, none⟩ (.int .u32 (n' : Nat))).setCell ⟨w.heap.size, 2, none⟩ (.slice ao cs.length cap)).setCell ⟨w.heap.size, 3, none⟩ (.int .u32 (v' : Nat))) (.returned (.tuple #[.agg #[.int .u32 (a' : Nat), .int .u32 (n' : Nat), .slice ao cs.length cap, .int .u32 (v' : Nat)], .bool true]))) := Lib.hid (.inl ⟨⟨a', n', v', cs⟩, .slice ao cs.length cap, hrd, own_mono (own_put hown hput (by omega)) (by omega), rfl⟩)
        clear hput hline hrd hcs hcr hown hc4
        go_wp2_with fail
        (try simp only [Exit.inBlock, Exit.then])
        rw [HQ0.out]
        refine bodyPost_ret (v := .tuple #[.agg #[.int .u32 (a' : Nat), .int .u32 (n' : Nat), .slice ao cs.length cap, .int .u32 (v' : Nat)], .bool true]) ?_ rfl ⟨?_, ?_⟩
        · rw [results_cell_tmp rfl]
          go_simp
        · exact HFIN.out
        · have hB := HB10.out
          go_grown
end Go.Proofs.YtbhondjfilohdaaGreatDoor
/-
  Package policy: what Parse answers.
-/
namespace Go.Proofs.YtbhondjfilohdaaGreatDoor
open Go.ChangeShapes Go.WideShapes Go.ChangeAt Go.RowKit
set_option maxRecDepth 20000

abbrev drB (rv : Value) (d : Nat) (b : Bool) : Obj := .cells #[rv, .int .u32 (d : Nat), .bool b] 55
/-- What a line makes of a draft: an error; or a rule more, or the default. -/
def AddPost (p : List UInt8) (l : List (Rl × Value)) (o : Option Nat) (gd B : Nat) (w : World) (e : Ending) (w' : World) : Prop :=
  (∃ (er : Nat) (ob : Obj), er ≠ 0 ∧ er < 100 ∧ (o.isSome = true → er = 2) ∧ (o = none → stepP (l.map (·.1)) p = .inr er) ∧ e = .returned (.int .i64 (er : Nat)) ∧ OwnAt B w w' gd ob) ∨
  (o = none ∧ ∃ (l' : List (Rl × Value)) (rv' : Value) (o' : Option Nat), stepP (l.map (·.1)) p = .inl (l'.map (·.1), o') ∧ LOwn w' B rv' l' ∧ l'.length ≤ 64 ∧ e = .returned (.int .i64 0) ∧ OwnAt B w w' gd (drB rv' (o'.getD 0) o'.isSome))
theorem put_draft {w : World} {g : Nat} {u : Value} {d : Nat} {b : Bool} (h : w.heap[g]? = some (drB u d b)) (v : Nat) : RowPut w ((w.setCell ⟨g, 1, none⟩ (.int .u32 (v : Nat))).setCell ⟨g, 2, none⟩ (.bool true)) g (drB u v true) := by
  have h1 := rowPut_cell h 1 (.int .u32 (v : Nat))
  have h2 := rowPut_cell h1.row 2 (.bool true)
  exact h1.then h2
theorem put_draftR {w : World} {g : Nat} {u : Value} {d : Nat} {b : Bool} (h : w.heap[g]? = some (drB u d b)) (rv : Value) : RowPut w (w.setCell ⟨g, 0, none⟩ rv) g (drB rv d b) := rowPut_cell h 0 rv
theorem dbox {w : World} {g : Nat} {rv : Value} {d : Nat} {b : Bool} (h : w.heap[g]? = some (drB rv d b)) : w.cell? ⟨g, 0, none⟩ = some rv ∧ w.cell? ⟨g, 1, none⟩ = some (.int .u32 (d : Nat)) ∧ w.cell? ⟨g, 2, none⟩ = some (.bool b) := ⟨cell_in h 0, cell_in h 1, cell_in h 2⟩
set_option maxHeartbeats 16000000 in
theorem padd_any (gd B : Nat) (s : ByteArray) (rv : Value) (l : List (Rl × Value)) (o : Option Nat) (w : World) (hd : w.heap[gd]? = some (drB rv (o.getD 0) o.isSome)) (hgB : gd < B) (hBw : B ≤ w.heap.size) (hL : LOwn w B rv l) (hl : l.length ≤ 64) (hs : s.size ≤ 50000) (ht : Tab w) :
    Calls Tryz.prog 24 #[.pointer (some ⟨gd, 0, none⟩), .string s] w (AddPost s.data.toList l o gd B w) := by
  obtain ⟨i0, hi, hz0, hz1, hz2⟩ := info_parts infoRl
  obtain ⟨p, hp⟩ : ∃ p, p = s.data.toList := ⟨_, rfl⟩
  rw [← hp]
  have HT := Lib.hid ht
  have HD := Lib.hid hd
  have HL := Lib.hid hL
  have hgw : gd < w.heap.size := by omega
  obtain ⟨PP, hPP⟩ : ∃ PP : Ending → World → Prop, PP = AddPost p l o gd B w := ⟨_, rfl⟩
  have HPP := Lib.hid hPP
  rw [← hPP]
  have HRD : Hid (Calls Tryz.prog 32 #[.string s] w fun e w' => PDEnd p e ∧ Below w.heap.size w w') := Lib.hid (by rw [hp]; exact preaddef_any s w hs ht)
  have HRR : Hid (∀ V, Below w.heap.size w V → Calls Tryz.prog 33 #[.string s] V fun e w' => PReadEnd p V.heap.size w' e ∧ Below V.heap.size V w') := Lib.hid (fun V hV => by rw [hp]; exact preadrule_any s V hs (HT.out.below hV))
  clear hd hL ht hPP hp hs
  obtain ⟨c0, c1, c2⟩ := dbox HD.out
  go_enter Tryz.func24, Tryz.ntmps24
  cases o with
  | some d =>
    have HE : Hid (PP (.returned (.int .i64 2)) w) := Lib.hid (by rw [HPP.out]; exact .inl ⟨2, _, by decide, by decide, fun _ => rfl, fun h => (by cases h), rfl, OwnAt.refl HD.out⟩)
    go_wp2_with fail
    exact HE.out
  | none =>
    go_wp2_with fail
    refine HRD.out.mono ?_
    rintro e w1 ⟨hE, hb1⟩
    have HB1 := Lib.hid hb1
    have HD1 := Lib.hid (kb hb1 HD.out)
    have HL1 := Lib.hid (HL.out.below hb1)
    have HA1 := Lib.hid ((OwnAt.refl (B := B) HD.out).next hb1 hBw)
    have hB1 : B ≤ w1.heap.size := Nat.le_trans hBw hb1.size
    unfold PDEnd at hE
    clear hb1 c0 c1 c2 HRD
    obtain ⟨c0, c1, c2⟩ := dbox HD1.out
    have f0 := free_in HD1.out 0
    have f1 := free_in HD1.out 1
    have f2 := free_in HD1.out 2
    have hg1 : gd < w1.heap.size := by omega
    cases hrd : readD p with
    | some v =>
      have hrn : readR p = none := by
        rw [(readD_some hrd).2.2]
        exact readR_def_none v
      have HST : Hid (stepP (l.map (·.1)) p = .inl (l.map (·.1), some v)) := Lib.hid (stepP_def hrn hrd)
      rw [hrd] at hE
      simp only [Option.getD_some, Option.isSome_some] at hE
      subst hE
      have hput := put_draft HD1.out v
      have HE : Hid (PP (.returned (.int .i64 0)) ((w1.setCell ⟨gd, 1, none⟩ (.int .u32 (v : Nat))).setCell ⟨gd, 2, none⟩ (.bool true))) := Lib.hid (by
        rw [HPP.out]
        exact .inr ⟨rfl, l, rv, some v, HST.out, HL1.out.put hput hgB, hl, rfl, HA1.out.put hput⟩)
      clear hput hrd hrn
      go_wp2_with fail
      exact HE.out
    | none =>
      rw [hrd] at hE
      simp only [Option.getD_none, Option.isSome_none] at hE
      subst hE
      have HRN := Lib.hid hrd
      clear hrd f0 f1 f2
      go_wp2_with fail
      refine (HRR.out _ HB1.out).mono ?_
      rintro e w2 ⟨hE, hb2⟩
      have HD2 := Lib.hid (kb hb2 HD1.out)
      have HL2 := Lib.hid (HL1.out.below hb2)
      have HA2 := Lib.hid (HA1.out.next hb2 hBw)
      have hB2 : B ≤ w2.heap.size := Nat.le_trans hB1 hb2.size
      clear hb2 c0 c1 c2 HD1 HL1 HA1 HB1 HRR
      rcases hE with ⟨x, cv, hx, hown, rfl⟩ | ⟨hx, rfl⟩
      rotate_left
      · have HST : Hid (stepP (l.map (·.1)) p = .inr 2) := Lib.hid (stepP_no hx HRN.out)
        have HE : Hid (PP (.returned (.int .i64 2)) (w2.alloc (rlB zeroRl (.slice none 0 0)))) := Lib.hid (by
          rw [HPP.out]
          exact .inl ⟨2, _, by decide, by decide, fun _ => rfl, fun _ => HST.out, rfl, HA2.out.next (ba _ (Below.refl _ _)) hBw⟩)
        clear hx
        go_wp2_with fail
        exact HE.out
      obtain ⟨co, ccap, rfl⟩ := own_shape hown
      have HOC : Hid (w2.ownsRow B 49 4 (.slice co x.conds.length ccap) x.conds.length (qcells (x.conds.map cdQ))) := Lib.hid (own_mono hown hB1)
      have HX := Lib.hid hx
      obtain ⟨ao, cap, rfl⟩ := own_shape HL2.out.row
      clear hown hx
      go_upto_region 8 with fail
      obtain ⟨W3, hW3⟩ : ∃ V, V = w2.alloc (rlB x (.slice co x.conds.length ccap)) := ⟨_, rfl⟩
      have hb3 : Below w2.heap.size w2 W3 := by rw [hW3]; exact ba _ (Below.refl _ _)
      have HX3 : Hid (W3.heap[w2.heap.size]? = some (rlB x (.slice co x.conds.length ccap))) := Lib.hid (by rw [hW3]; exact heap_alloc_new w2 _)
      have HD3 := Lib.hid (kb hb3 HD2.out)
      have HL3 := Lib.hid (HL2.out.below hb3)
      have HA3 := Lib.hid (HA2.out.next hb3 hBw)
      have HOC3 := Lib.hid (own_below HOC.out hb3)
      have hB3 : B ≤ W3.heap.size := Nat.le_trans hB2 hb3.size
      have hg3 : gd < W3.heap.size := by omega
      have hgx : w2.heap.size < W3.heap.size := lt_of_block HX3.out
      have HLT : Hid (∀ k, (Value.slice ao l.length cap).ownBlock = some k → B ≤ k ∧ k < w2.heap.size) := Lib.hid (HL2.out.row.lt)
      change Code.wp _ _ _ _ (w2.alloc (rlB x (.slice co x.conds.length ccap)))
      rw [← hW3]
      clear hW3 hb3 HD2 HL2 HA2 HOC
      generalize w2.heap.size = gx at *
      obtain ⟨c0, c1, c2⟩ := dbox HD3.out
      obtain ⟨x0, x1, x2, x3⟩ := rbox HX3.out
      by_cases h64 : l.length = 64
      · have HE : Hid (PP (.returned (.int .i64 3)) W3) := Lib.hid (by
          rw [HPP.out]
          exact .inl ⟨3, _, by decide, by decide, fun h => (by cases h), fun _ => stepP_full HX.out (by rw [List.length_map]; omega), rfl, HA3.out⟩)
        have hb : ((l.length : Int) == 64) = true := by simp; omega
        clear h64
        go_wp2_with fail
        exact HE.out
      have hb : ((l.length : Int) == 64) = false := by simp; omega
      have HST : Hid (stepP (l.map (·.1)) p = .inl ((l ++ [((x, Value.slice co x.conds.length ccap) : Rl × Value)]).map (·.1), none)) := Lib.hid (by
        rw [stepP_rule HX.out (by rw [List.length_map]; omega), List.map_append]
        rfl)
      go_upto_region 12 with fail
      have hba : Below W3.heap.size W3 (W3.drew.alloc (rlB x (.slice co x.conds.length ccap))) := ba _ (bdN (Below.refl W3.heap.size W3) 1)
      have HL4 := Lib.hid (HL3.out.below hba)
      have HOC4 := Lib.hid (own_below HOC3.out hba)
      have HD4 := Lib.hid (kb hba HD3.out)
      have HX4 := Lib.hid (kb hba HX3.out)
      have HA4 := Lib.hid (HA3.out.next hba hBw)
      have hB4 : B ≤ (W3.drew.alloc (rlB x (.slice co x.conds.length ccap))).heap.size := Nat.le_trans hB3 hba.size
      have hg4 : gd < (W3.drew.alloc (rlB x (.slice co x.conds.length ccap))).heap.size := by omega
      have hgx4 : gx < (W3.drew.alloc (rlB x (.slice co x.conds.length ccap))).heap.size := Nat.lt_of_lt_of_le hgx hba.size
      go_region_law (refine step_append_lies _ (by rfl) _ _ 22 (by rfl) B 28 i0 (.agg #[.int .u32 0, .int .u32 0, .slice none 0 0, .int .u32 0]) 4 40 Tryz.underlying22 hi hz0 hz1 hz2 (by rfl) (by decide) (.slice ao l.length cap) l.length (qcells (l.map rlQ)) (by rfl) HL4.out.row ⟨W3.drew.heap.size, 0, none⟩ 1 1 (V4.cells (rlQ (x, .slice co x.conds.length ccap))) (by rfl) (by rfl) (new_at W3.drew #[.int .u32 (x.arch : Nat), .int .u32 (x.nr : Nat), .slice co x.conds.length ccap, .int .u32 (x.act : Nat)] 28) (by simp [Value.oneCell']) (by omega) (by unfold maxLen; omega) (by omega) hB4 _ rfl ?_; intro g5 cap5 w5 hown5 hgrow5 hat5 hlt5; have hD5 := (hgrow5.block gd hg4 (fun e => by have := (HLT.out gd e.symm).1; omega)).trans HD4.out; have hX5 := (hgrow5.block gx hgx4 (fun e => by have := (HLT.out gx e.symm).2; omega)).trans HX4.out; have cx := cell_in hD5 0; have fx := free_in hD5 0)
      all_goals
        have HL5 := Lib.hid (HL4.out.grow HOC4.out hgrow5 hown5)
        have HA5 := Lib.hid (HA4.out.grown HL4.out.row hgrow5 hB4 (Nat.le_refl _) hgB)
        have hput := put_draftR hD5 (.slice (some ⟨g5, 0, none⟩) (l.length + 1) cap5)
        have HE : Hid (PP (.returned (.int .i64 0)) (w5.setCell ⟨gd, 0, none⟩ (.slice (some ⟨g5, 0, none⟩) (l.length + 1) cap5))) := Lib.hid (by
          rw [HPP.out]
          exact .inr ⟨rfl, l ++ [(x, .slice co x.conds.length ccap)], _, none, HST.out, HL5.out.put hput hgB, by rw [List.length_append, List.length_singleton]; omega, rfl, HA5.out.put hput⟩)
        clear hput hown5 hgrow5 hat5 hlt5 hD5 hX5 cx fx
        go_wp2_with fail
        exact HE.out
theorem linesOf_cons (q : List UInt8) : ∃ m ms, linesOf q = m :: ms := by
  cases h : linesOf q with
  | nil => exact absurd h (lines_ne q)
  | cons m ms => exact ⟨m, ms, rfl⟩
theorem drop_line {L p q : List UInt8} {a : Nat} (h : L.drop a = p ++ 10 :: q) : L.drop (a + p.length + 1) = q := by
  rw [Nat.add_assoc, ← List.drop_drop, h, ← List.drop_drop, List.drop_left]
  rfl
set_option maxHeartbeats 16000000 in
theorem ppparse_any (s : ByteArray) (w : World) (ht : Tab w) :
    Calls Tryz.prog 13 #[.string s] w fun e w' => PPEnd s.data.toList w' e ∧ Below w.heap.size w w' := by
  have hz := heap_alloc_new w (poB (.slice none 0 0) 0)
  have HB0 := Lib.hid (ba (poB (.slice none 0 0) 0) (Below.refl w.heap.size w))
  obtain ⟨W, hW⟩ : ∃ W, W = w.alloc (poB (.slice none 0 0) 0) := ⟨_, rfl⟩
  rw [← hW] at hz HB0
  have HZ0 := Lib.hid hz
  have HT := Lib.hid ht
  clear hz ht
  go_enter Tryz.func13, Tryz.ntmps13
  obtain ⟨Q, hQ⟩ : ∃ Q, Q = bodyPost Tryz.prog Tryz.f13 (fun e w' => PPEnd s.data.toList w' e ∧ Below w.heap.size w w') := ⟨_, rfl⟩
  rw [← hQ]
  have HQ0 := Lib.hid hQ
  clear hQ
  go_upto_region 1 with fail
  change Code.wp _ _ _ _ (w.alloc (poB (.slice none 0 0) 0))
  rw [← hW]
  clear hW
  obtain ⟨L, hLe⟩ : ∃ L, L = s.data.toList := ⟨_, rfl⟩
  have hLl : L.length = s.size := by rw [hLe]; rfl
  rw [← hLe] at HQ0
  have HLE := Lib.hid hLe
  by_cases hbig : 20000 < s.size
  · have HE : Hid (polT L = (zeroPo, 0, 3)) := Lib.hid (by unfold polT; rw [if_pos (by omega)])
    have hb : decide ((20000 : Int) < (s.size : Int)) = true := by simp; omega
    have r0 := cell_in HZ0.out 0
    have r1 := cell_in HZ0.out 1
    have f0 := free_in HZ0.out 0
    have f1 := free_in HZ0.out 1
    have hzlt : w.heap.size < W.heap.size := lt_of_block HZ0.out
    clear hLl hLe hbig
    go_wp2_with fail
    (try simp only [Exit.inBlock, Exit.then])
    rw [HQ0.out]
    refine bodyPost_ret (v := .tuple #[.agg #[.slice none 0 0, .int .u32 0], .int .i64 0, .int .i64 3]) ?_ rfl ⟨?_, ?_⟩
    · rw [results_cell_tmp2 rfl]
      go_simp
    · exact ppEnd_bad HE.out
    · have hB := HB0.out
      go_grown
  have hb : decide ((20000 : Int) < (s.size : Int)) = false := by simp; omega
  have HP0 : Hid (polT L = rdP L.length (linesOf (L.drop 0)) [] none 0) := Lib.hid (by rw [List.drop_zero]; unfold polT; rw [if_neg (by omega)])
  go_upto_region 4 with fail
  obtain ⟨W2, hW2⟩ : ∃ W2, W2 = W.alloc (drB (.slice none 0 0) 0 false) := ⟨_, rfl⟩
  have HD2 : Hid (W2.heap[W.heap.size]? = some (drB (.slice none 0 0) 0 false)) := Lib.hid (by rw [hW2]; exact heap_alloc_new W _)
  have HZ2 : Hid (W2.heap[w.heap.size]? = some (poB (.slice none 0 0) 0)) := Lib.hid (by rw [hW2]; exact ka _ HZ0.out)
  have HB2 : Hid (Below w.heap.size w W2) := Lib.hid (by rw [hW2]; exact ba _ HB0.out)
  have hgz : w.heap.size < W.heap.size := lt_of_block HZ0.out
  have hgd : W.heap.size < W2.heap.size := lt_of_block HD2.out
  change Code.wp _ _ _ _ (W.alloc (drB (.slice none 0 0) 0 false))
  rw [← hW2]
  clear hW2 HZ0 HB0
  generalize W.heap.size = gd at *
  obtain ⟨B, hBe⟩ : ∃ B, B = W2.heap.size := ⟨_, rfl⟩
  have HBe := Lib.hid hBe
  rw [← hBe] at hgd
  have hs2 : B ≤ W2.heap.size := by omega
  have hsz : s.size ≤ 20000 := by omega
  have HLL := Lib.hid hLl
  clear hBe hLe hbig hb hLl
  go_wp2_with fail
  go_loopw [6] (fun bv wr => ∃ (a : Nat) (l : List (Rl × Value)) (rv : Value) (o : Option Nat), bv = .int .i64 a ∧ a ≤ s.size ∧ Hid (polT L = rdP L.length (linesOf (L.drop a)) (l.map (·.1)) o a) ∧ Hid (LOwn wr B rv l) ∧ l.length ≤ 64 ∧ Hid (wr.heap[gd]? = some (drB rv (o.getD 0) o.isSome)) ∧ Hid (wr.heap[w.heap.size]? = some (poB (.slice none 0 0) 0)) ∧ Hid (Below w.heap.size w wr) ∧ B ≤ wr.heap.size) (fun bv _ => s.size - (Lib.intOf bv).toNat)
  case atStart => exact ⟨0, [], .slice none 0 0, none, rfl, Nat.zero_le _, HP0, Lib.hid (LOwn.nil _ _), Nat.zero_le _, HD2, HZ2, HB2, hs2⟩
  case round =>
    obtain ⟨a, l, rv, o, rfl, ha, HP, HL, h64, HD, HZ, HB, hBs⟩ := hrel
    clear HP0 HD2 HZ2 HB2
    by_cases hlt : a < s.size
    · have hltb : (a : Int) < (s.size : Int) := by omega
      obtain ⟨S, hS⟩ : ∃ S, S = s.extract a s.size := ⟨_, rfl⟩
      have HSL : Hid (S.data.toList = L.drop a) := Lib.hid (by rw [hS, drop_str, HLE.out])
      have hSz : S.size ≤ 20000 := by
        show S.data.toList.length ≤ _
        rw [HSL.out, List.length_drop, HLL.out]
        omega
      have HSC : Hid (Calls Tryz.prog 23 #[.string (s.extract a s.size), .string ⟨#[10]⟩] wr (SCutEnd S 10 wr)) := Lib.hid (by rw [← hS]; exact strCut_any S 10 wr (by omega))
      clear hS
      go_wp2_with fail
      refine HSC.out.mono ?_
      rintro e w1 ⟨hE, nd, rfl⟩
      have hb1 : Below wr.heap.size wr (wr.drewN nd) := bdN (Below.refl _ _) nd
      have HB1 := Lib.hid (below2 HB.out hb1)
      have HZ1 := Lib.hid (kb hb1 HZ.out)
      have HD1 := Lib.hid (kb hb1 HD.out)
      have HL1 := Lib.hid (HL.out.below hb1)
      have hB1 : B ≤ (wr.drewN nd).heap.size := Nat.le_trans hBs hb1.size
      clear hb1 HB HZ HD HL HSC
      generalize wr.drewN nd = w1 at *
      have hzlt : w.heap.size < w1.heap.size := lt_of_block HZ1.out
      rcases hE with ⟨hno, rfl⟩ | ⟨p, q, hpq, hpn, rfl⟩
      · have HE : Hid (polT L = (zeroPo, a, 2)) := Lib.hid (by
          rw [HSL.out] at hno
          rw [HP.out, lines_one hno, rdP_last]
          unfold lastP
          rw [if_neg]
          intro e
          have := congrArg List.length e
          rw [List.length_drop, HLL.out] at this
          simp at this
          omega)
        have r0 := cell_in HZ1.out 0
        have r1 := cell_in HZ1.out 1
        have f0 := free_in HZ1.out 0
        have f1 := free_in HZ1.out 1
        clear hno
        go_wp2_with fail
        (try simp only [Exit.inBlock, Exit.then])
        rw [HQ0.out]
        refine bodyPost_ret (v := .tuple #[.agg #[.slice none 0 0, .int .u32 0], .int .i64 a, .int .i64 2]) ?_ rfl ⟨?_, ?_⟩
        · rw [results_cell_tmp2 rfl]
          go_simp
        · exact ppEnd_bad HE.out
        · have hB := HB1.out
          go_grown
      · have hdr : L.drop a = p ++ 10 :: q := by rw [← HSL.out]; exact hpq
        have hal : a + p.length + 1 ≤ s.size := by
          have := congrArg List.length hdr
          rw [List.length_drop, HLL.out, List.length_append, List.length_cons] at this
          omega
        obtain ⟨m, ms, hm⟩ := linesOf_cons q
        have HLN : Hid (linesOf (L.drop a) = p :: m :: ms) := Lib.hid (by rw [hdr, lines_cut hpn, hm])
        have HQD : Hid (linesOf (L.drop (a + p.length + 1)) = m :: ms) := Lib.hid (by rw [drop_line hdr, hm])
        have hpz : (⟨p.toArray⟩ : ByteArray).size = p.length := rfl
        have HAD : Hid (Calls Tryz.prog 24 #[.pointer (some ⟨gd, 0, none⟩), .string ⟨p.toArray⟩] w1 (AddPost p l o gd B w1)) := Lib.hid (padd_any gd B ⟨p.toArray⟩ rv l o w1 HD1.out hgd hB1 HL1.out h64 (by omega) (HT.out.below HB1.out))
        obtain ⟨P, hP⟩ : ∃ P : ByteArray, P = ⟨p.toArray⟩ := ⟨_, rfl⟩
        rw [← hP] at HAD hpz ⊢
        clear hdr hm hpq hpn hP
        go_wp2_with fail
        refine HAD.out.mono ?_
        rintro e w2 hE
        rcases hE with ⟨er, ob, he0, he1, hes, hen, rfl, hA⟩ | ⟨ho, l', rv', o', hst, hL', h64', rfl, hA⟩
        · have HE : Hid (polT L = (zeroPo, a, er)) := Lib.hid (by
            rw [HP.out, HLN.out]
            cases o with
            | none => exact rdP_stop (hen rfl)
            | some d => rw [rdP_done, hes rfl])
          have HB2 := Lib.hid (hA.below HB1.out (by omega) (by omega))
          have HZ2 := Lib.hid (hA.keep (by omega) (by omega) HZ1.out)
          have hzlt2 : w.heap.size < w2.heap.size := lt_of_block HZ2.out
          have r0 := cell_in HZ2.out 0
          have r1 := cell_in HZ2.out 1
          have f0 := free_in HZ2.out 0
          have f1 := free_in HZ2.out 1
          have hne : ((er : Int) == 0) = false := by simp; omega
          clear hA hes hen he0 he1
          go_wp2_with fail
          (try simp only [Exit.inBlock, Exit.then])
          rw [HQ0.out]
          refine bodyPost_ret (v := .tuple #[.agg #[.slice none 0 0, .int .u32 0], .int .i64 a, .int .i64 er]) ?_ rfl ⟨?_, ?_⟩
          · rw [results_cell_tmp2 rfl]
            go_simp
          · exact ppEnd_bad HE.out
          · have hB := HB2.out
            go_grown
        · subst ho
          have HN : Hid (polT L = rdP L.length (linesOf (L.drop (a + p.length + 1))) (l'.map (·.1)) o' (a + p.length + 1)) := Lib.hid (by rw [HP.out, HLN.out, rdP_go hst, HQD.out])
          have HB2 := Lib.hid (hA.below HB1.out (by omega) (by omega))
          have HZ2 := Lib.hid (hA.keep (by omega) (by omega) HZ1.out)
          have HD2 := Lib.hid hA.row
          have hB2 : B ≤ w2.heap.size := Nat.le_trans hB1 hA.size
          have HL2 := Lib.hid hL'
          clear hA hL' hst
          go_wp2_with fail
          go_roundw
          case rel => exact ⟨a + p.length + 1, l', rv', o', by congr 1, by omega, HN, HL2, h64', HD2, HZ2, HB2, hB2⟩
          case measure => simp [Lib.intOf]; omega
    · obtain rfl : a = s.size := by omega
      have HLS : Hid (polT L = lastP L.length (l.map (·.1)) o s.size []) := Lib.hid (by rw [HP.out, List.drop_eq_nil_of_le (by rw [HLL.out]; omega), lines_nil, rdP_last])
      have hnlt : ¬ ((s.size : Int) < (s.size : Int)) := by omega
      have hzlt : w.heap.size < wr.heap.size := lt_of_block HZ.out
      have r0 := cell_in HZ.out 0
      have r1 := cell_in HZ.out 1
      have f0 := free_in HZ.out 0
      have f1 := free_in HZ.out 1
      cases o with
      | none =>
        obtain ⟨c0, c1, c2⟩ := dbox HD.out
        have HE : Hid (polT L = (zeroPo, s.size, 5)) := Lib.hid (by rw [HLS.out]; unfold lastP; rw [if_pos rfl, HLL.out])
        go_wp2_with fail
        (try simp only [Exit.inBlock, Exit.then])
        rw [HQ0.out]
        refine bodyPost_ret (v := .tuple #[.agg #[.slice none 0 0, .int .u32 0], .int .i64 s.size, .int .i64 5]) ?_ rfl ⟨?_, ?_⟩
        · rw [results_cell_tmp2 rfl]
          go_simp
        · exact ppEnd_bad HE.out
        · have hB := HB.out
          go_grown
      | some d =>
        have HE : Hid (polT L = (⟨l.map (·.1), d⟩, 0, 0)) := Lib.hid (by rw [HLS.out]; unfold lastP; rw [if_pos rfl])
        obtain ⟨ao, cap, rfl⟩ := own_shape HL.out.row
        obtain ⟨c0, c1, c2⟩ := dbox HD.out
        have c1' : wr.cell? ⟨gd, 1, none⟩ = some (.int .u32 (d : Nat)) := c1
        have c2' : wr.cell? ⟨gd, 2, none⟩ = some (.bool true) := c2
        have hput := put_pol HZ.out (.slice ao l.length cap) d
        have HF : Hid (PPEnd L ((wr.setCell ⟨w.heap.size, 0, none⟩ (.slice ao l.length cap)).setCell ⟨w.heap.size, 1, none⟩ (.int .u32 (d : Nat))) (.returned (.tuple #[.agg #[.slice ao l.length cap, .int .u32 (d : Nat)], .int .i64 0, .int .i64 0]))) := Lib.hid (ppEnd_good HE.out (HL.out.put hput (by omega)).at)
        clear hput c1 c2
        go_wp2_with fail
        (try simp only [Exit.inBlock, Exit.then])
        rw [HQ0.out]
        refine bodyPost_ret (v := .tuple #[.agg #[.slice ao l.length cap, .int .u32 (d : Nat)], .int .i64 0, .int .i64 0]) ?_ rfl ⟨?_, ?_⟩
        · rw [results_cell_tmp2 rfl]
          go_simp
        · exact HF.out
        · have hB := HB.out
          go_grown
end Go.Proofs.YtbhondjfilohdaaGreatDoor
/-
  The rows of examples at the end of each law of package hurdlelaw10; an argument that is a policy.
-/
namespace Go.Proofs.YtbhondjfilohdaaGreatDoor
open Go.ChangeShapes Go.WideShapes Go.ChangeAt Go.RowKit Go.Deep
set_option maxRecDepth 100000

def exC : Cd := ⟨0, 0, 4294967295, 1⟩
def exR : Rl := ⟨3221225534, 1, 2147418112, [exC]⟩
def exP : Po := ⟨[exR], 0⟩
theorem exC_ok : exC.ok := ⟨by decide, by decide⟩
theorem exC_right : exC.right = true := by decide
theorem exR_ok : exR.ok := ⟨by decide, by decide, by decide, fun c hc => by rw [List.mem_singleton.1 hc]; exact exC_ok⟩
theorem act_allow : actT 2147418112 = some ⟨#[97, 108, 108, 111, 119]⟩ := by rfl
theorem act_kill : actT 0 = some ⟨#[107, 105, 108, 108]⟩ := by rfl
theorem exR_right : exR.right = true := rl_right (by decide) (by show (actT 2147418112).isSome = true; rw [act_allow]; rfl) (fun c hc => by rw [List.mem_singleton.1 hc]; exact exC_right)
theorem exP_ok : exP.ok := ⟨by decide, fun x hx => by rw [List.mem_singleton.1 hx]; exact exR_ok⟩
theorem exP_right : exP.right = true := right_po (by decide) (by show (actT 0).isSome = true; rw [act_kill]; rfl) (fun x hx => by rw [List.mem_singleton.1 hx]; exact exR_right)
theorem hex_all : Wd.hex 4294967295 = [102, 102, 102, 102, 102, 102, 102, 102] := by
  rw [Wd.hex_ge (by omega), Wd.hex_ge (by omega), Wd.hex_ge (by omega), Wd.hex_ge (by omega), Wd.hex_ge (by omega), Wd.hex_ge (by omega), Wd.hex_ge (by omega), Wd.hex_lt (by omega)]
  rfl
theorem hex_one : Wd.hex 1 = [49] := by
  rw [Wd.hex_lt (by omega)]
  rfl
theorem kill_line : lineD 0 = [100, 101, 102, 97, 117, 108, 116, 32, 107, 105, 108, 108] := by
  unfold lineD defW actB
  rw [act_kill]
  rfl
def exT : List UInt8 := [111, 110, 32, 120, 54, 52, 32, 119, 114, 105, 116, 101, 32, 97, 108, 108, 111, 119, 32, 105, 102, 32, 97, 48, 32, 48, 120, 102, 102, 102, 102, 102, 102, 102, 102, 32, 101, 113, 32, 48, 120, 49, 10, 100, 101, 102, 97, 117, 108, 116, 32, 107, 105, 108, 108, 10]
theorem exP_text : textP exP = exT := by
  have e : lineL exR = [111, 110, 32, 120, 54, 52, 32, 119, 114, 105, 116, 101, 32, 97, 108, 108, 111, 119, 32, 105, 102, 32, 97, 48, 32, 48, 120, 102, 102, 102, 102, 102, 102, 102, 102, 32, 101, 113, 32, 48, 120, 49] := by
    have e1 : textQ exC = [97, 48, 32, 48, 120, 102, 102, 102, 102, 102, 102, 102, 102, 32, 101, 113, 32, 48, 120, 49] := by
      show argW 0 ++ 32 :: ((48 :: 120 :: Wd.hex 4294967295) ++ 32 :: (cmpW 0 ++ 32 :: (48 :: 120 :: Wd.hex 1))) = _
      rw [hex_all, hex_one]
      rfl
    rw [lineL_eq]
    show lineH exR ++ (condL 0 exC ++ []) = _
    unfold condL
    rw [e1]
    unfold lineH actB
    show ([111, 110, 32] ++ bl (textN machT 3221225534) ++ [32] ++ bl (textN (callT 3221225534) 1) ++ [32] ++ bl ((actT 2147418112).getD ⟨#[]⟩)) ++ _ = _
    rw [act_allow]
    rfl
  show (lineL exR ++ [10]) ++ [] ++ (lineD 0 ++ [10]) = _
  rw [e, kill_line]
  rfl
theorem polT_ex : polT exT = (exP, 0, 0) := by
  have h := polT_text exP_ok exP_right
  rw [exP_text, if_neg (by decide)] at h
  exact h
/-! ### What is looked at -/
def smallR (x : Rl) : Bool := decide (x.conds.length ≤ 20)
def greatP (p : Po) : Bool := !(p.rules.all smallR) || decide (100 < p.rules.length)
set_option maxHeartbeats 8000000 in
theorem great_any (rv : Value) (p : Po) (w : World) (hL : LAt w rv p.rules) (hl : p.rules.length ≤ 9223372036854775807) (hl2 : ∀ x ∈ p.rules, x.conds.length ≤ 9223372036854775807) :
    Calls Tryz.prog 4 #[poV rv p.dflt] w fun e w' => e = .returned (.bool (greatP p)) ∧ Below w.heap.size w w' := by
  obtain ⟨rs, d⟩ := p
  simp only at hL hl hl2
  obtain ⟨ao, cap, rfl, hrows⟩ := hL.rows
  have HROW := Lib.hid hrows
  have HX0 := Lib.hid (heap_alloc_new w (poB (.slice ao rs.length cap) d))
  have HB0 := Lib.hid (ba (poB (.slice ao rs.length cap) d) (Below.refl w.heap.size w))
  obtain ⟨W, hW⟩ : ∃ W, W = w.alloc (poB (.slice ao rs.length cap) d) := ⟨_, rfl⟩
  rw [← hW] at HX0 HB0
  obtain ⟨R, hR⟩ : ∃ R, R = greatP ⟨rs, d⟩ := ⟨_, rfl⟩
  rw [← hR]
  have HR := Lib.hid hR
  have HL2 := Lib.hid hl2
  clear hR hrows hL hl2
  go_enter Tryz.func4, Tryz.ntmps4
  go_upto_region 1 with fail
  change Code.wp _ _ _ _ (w.alloc (poB (.slice ao rs.length cap) d))
  rw [← hW]
  clear hW
  go_wp2_with fail
  go_loopw [3] (fun i wr => ∃ k : Nat, k ≤ rs.length ∧ i = .int .i64 k ∧ Below w.heap.size w wr ∧ wr.heap[w.heap.size]? = some (poB (.slice ao rs.length cap) d) ∧ (rs.take k).all smallR = true) (fun i _ => rs.length - (Lib.intOf i).toNat)
  case atStart => exact ⟨0, Nat.zero_le _, rfl, HB0.out, HX0.out, rfl⟩
  case round =>
    obtain ⟨k, hk, rfl, hbw, hxx, hall⟩ := hrel
    have HB := Lib.hid hbw
    have HX := Lib.hid hxx
    have HA := Lib.hid hall
    clear hbw hxx hall HB0 HX0
    obtain ⟨c0, c1⟩ := pbox HX.out
    by_cases hlt : k < rs.length
    · obtain ⟨b, off, cv, rfl, hb', hcv, d0, d1, d2, d3⟩ := HROW.out k hlt
      obtain ⟨x, hx⟩ : ∃ x, x = rs[k] := ⟨_, rfl⟩
      rw [← hx] at hcv d0 d1 d3
      have hxl : x.conds.length ≤ 9223372036854775807 := by rw [hx]; exact HL2.out _ (List.getElem_mem hlt)
      obtain ⟨co, ccap, rfl⟩ := hcv.shape
      have HXR := Lib.hid hx
      have e2 := (HB.out.cell (p := ⟨b, _, none⟩) hb').trans d2
      have l0 : (k : Int) < (rs.length : Int) := by omega
      have l1 : (0 : Int) ≤ (k : Int) := by omega
      have l2 : (k : Int).toNat = k := by omega
      clear hx d0 d1 d2 d3 hcv
      by_cases h20 : 20 < x.conds.length
      · have HE : Hid (R = true) := Lib.hid (by
          rw [HR.out]
          unfold greatP
          rw [not_all (P := smallR) hlt (by rw [← HXR.out]; unfold smallR; simp; omega)]
          rfl)
        have hb : decide ((20 : Int) < (x.conds.length : Int)) = true := by simp; omega
        clear h20
        go_wp2_with fail
        go_ret
        exact ⟨by rw [HE.out]; rfl, HB.out⟩
      · have HN : Hid ((rs.take (k + 1)).all smallR = true) := Lib.hid (take_all_succ hlt HA.out (by rw [← HXR.out]; unfold smallR; simp; omega))
        have hb : decide ((20 : Int) < (x.conds.length : Int)) = false := by simp; omega
        clear h20
        go_wp2_with fail
        go_roundw
        case rel => exact ⟨k + 1, by omega, by go_num, HB.out, HX.out, HN.out⟩
        case measure => simp [Lib.intOf]; omega
    · have HE : Hid (R = decide (100 < rs.length)) := Lib.hid (by
        rw [HR.out]
        unfold greatP
        rw [take_all_end (by omega) HA.out]
        rfl)
      have hn : ¬ ((k : Int) < (rs.length : Int)) := by omega
      by_cases h100 : 100 < rs.length
      · have hb : decide ((100 : Int) < (rs.length : Int)) = true := by simp; omega
        have HE2 : Hid (R = true) := Lib.hid (by rw [HE.out]; simp; omega)
        clear h100
        go_wp2_with fail
        go_ret
        exact ⟨by rw [HE2.out]; rfl, HB.out⟩
      · have hb : decide ((100 : Int) < (rs.length : Int)) = false := by simp; omega
        have HE2 : Hid (R = false) := Lib.hid (by rw [HE.out]; simp; omega)
        clear h100
        go_wp2_with fail
        go_ret
        exact ⟨by rw [HE2.out]; rfl, HB.out⟩
/-! ### The rows of examples -/
theorem parse_ex (w : World) (ht : Tab w) : Calls Tryz.prog 13 #[.string ⟨#[111, 110, 32, 120, 54, 52, 32, 119, 114, 105, 116, 101, 32, 97, 108, 108, 111, 119, 32, 105, 102, 32, 97, 48, 32, 48, 120, 102, 102, 102, 102, 102, 102, 102, 102, 32, 101, 113, 32, 48, 120, 49, 10, 100, 101, 102, 97, 117, 108, 116, 32, 107, 105, 108, 108, 10]⟩] w fun e w' => (∃ rv, LAt w' rv [exR] ∧ e = .returned (.tuple #[poV rv 0, .int .i64 0, .int .i64 0])) ∧ Below w.heap.size w w' := by
  refine (ppparse_any (bsT exT) w ht).mono ?_
  rintro e w' ⟨⟨rv, hL, he⟩, hb⟩
  have h : polT (bsT exT).data.toList = (exP, 0, 0) := polT_ex
  rw [h] at hL he
  exact ⟨⟨rv, hL, he⟩, hb⟩
/-! ### What comes of a text, by letters -/
end Go.Proofs.YtbhondjfilohdaaGreatDoor
