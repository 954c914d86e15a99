/-
  What the laws' texts use, joined.
-/
import Derived.Laws.BitsAllLaws
import Derived.RowKit
import Derived.Test.YtbhondjfilohdaaDoorProg
import Derived.WalkKit
import Derived.ProofKit
import Derived.Lib.Hide
import Derived.Laws.Rows
import Derived.Laws.ResultCell
import Derived.Laws.Entries
import Derived.Handy
import Derived.OwnWalk
import Derived.Laws.OwnMore
import Derived.Deep.Draws
import Derived.Laws.IdiomStrings
import Derived.Lib.BufferRead
import Derived.Maps.OwnSet
import Derived.Deep.RegionHeld3
import Derived.BigRegion
import Derived.Lib.QuietBelow
import Derived.Deep.Cut
import Derived.Maps.RangeWalk
import Derived.StringKeys
import Derived.BigQuiet
import Derived.IntWalk
import Derived.Lib.OthersKept
import Derived.Laws.Tables
import Derived.Deep.DeepCutAuto
import Derived.Shelf.Strings.Builder1
import Derived.Shelf.Strings.Search1
import Derived.Lib.IndexLaws
import Derived.Lib.Split
import Derived.Deep.OwnRows
import Derived.Laws.Strings3
import Derived.Lib.Join
import Derived.Lib.MakeNoZero
import Derived.Lib.Builder
import Derived.Laws.IdiomCopy
import Derived.Test.YtbhondjfilohdaaDoorPk1
import Derived.Test.YtbhondjfilohdaaDoorPk2
/-
  What package names of the program answers: its tables are maps from names to numbers.
-/
namespace Go.Proofs.YtbhondjfilohdaaDoor
open Go.ChangeShapes Go.WideShapes Go.ChangeAt Go.RowKit
set_option maxRecDepth 20000

/-! ### A table as a map -/
/-- The elements of a map read as themselves. -/
def nmR : Value → Option (DataW Value × List MemPlace) := fun v => some (.held v, [])
theorem keyS : Go.Maps.Keyed Tryd.prog 9 := Go.Maps.string_keyed Tryd.underlying9
def nkey (s : ByteArray) : Lit := .string s.data.toList
def nval (n : Nat) : Value := .int .u32 n
theorem nkey_lit (s : ByteArray) : WideAt.IsKeyLit (nkey s) := by unfold nkey; exact True.intro
theorem nkey_inj {s t : ByteArray} (h : nkey s = nkey t) : s = t := by
  unfold nkey at h
  exact ByteArray.ext (Array.ext' (by simpa using h))
theorem keyOfS {s : ByteArray} (h : s.size ≤ maxLen) : keyOf Tryd.prog 9 (.string s) = some (nkey s) := WideMaps.keyOf_string_mk Tryd.underlying9 h
def tblPut : Tbl → DataW Value → DataW Value
  | [], D => D
  | p :: T, D => tblPut T (D.put (nkey p.1) (.held (nval p.2)))
def tblD (T : Tbl) : DataW Value := tblPut T (.map [])
theorem put_isMap {D : DataW Value} (h : Maps.IsMap D) (k : Lit) (v : DataW Value) : Maps.IsMap (D.put k v) := Maps.IsMap.put h k v
theorem has_tblPut : ∀ (T : Tbl) (D : DataW Value) (kl : Lit), Maps.IsMap D → (Maps.has (tblPut T D) kl = true ↔ (∃ p ∈ T, nkey p.1 = kl) ∨ Maps.has D kl = true)
  | [], D, kl, _ => by simp [tblPut]
  | p :: T, D, kl, hm => by
    have ih := has_tblPut T (D.put (nkey p.1) (.held (nval p.2))) kl (put_isMap hm _ _)
    show Maps.has (tblPut T _) kl = true ↔ _
    rw [ih]
    by_cases e : nkey p.1 = kl
    · subst e
      rw [Maps.has_put_same hm (nkey_lit _)]
      simp
    · rw [Maps.has_put_other (fun h => e h.symm)]
      simp [e]
theorem has_tbl (T : Tbl) (kl : Lit) : Maps.has (tblD T) kl = true ↔ ∃ p ∈ T, nkey p.1 = kl := by
  unfold tblD
  rw [has_tblPut T _ kl Maps.isMap_empty]
  constructor
  · rintro (h | h)
    · exact h
    · cases h
  · exact .inl
theorem at_miss : ∀ (T : Tbl) (D : DataW Value) (kl : Lit) (z : DataW Value), (∀ p ∈ T, nkey p.1 ≠ kl) → (tblPut T D).atKey kl z = D.atKey kl z
  | [], _, _, _, _ => rfl
  | p :: T, D, kl, z, h => by
    show (tblPut T _).atKey kl z = _
    rw [at_miss T _ kl z (fun q hq => h q (by simp [hq])), Maps.atKey_put_other (fun e => h p (by simp) e.symm)]
theorem at_hit : ∀ (T : Tbl) (D : DataW Value) (p : ByteArray × Nat) (z : DataW Value), tblGood T = true → p ∈ T → Maps.IsMap D → (tblPut T D).atKey (nkey p.1) z = .held (nval p.2)
  | q :: T, D, p, z, hT, hp, hm => by
    obtain ⟨h1, _, _, h4⟩ := tbl_cons hT
    show (tblPut T _).atKey _ z = _
    rcases List.mem_cons.1 hp with rfl | hp
    · rw [at_miss T _ _ z (fun r hr e => (h1 r hr).1 (nkey_inj e).symm), Maps.atKey_put_same hm (nkey_lit _)]
    · exact at_hit T _ p z h4 hp (put_isMap hm _ _)
theorem at_tbl {T : Tbl} (hT : tblGood T = true) {p : ByteArray × Nat} (hp : p ∈ T) (z : DataW Value) : (tblD T).atKey (nkey p.1) z = .held (nval p.2) := at_hit T _ p z hT hp Maps.isMap_empty
/-- A table, as it lies in a world. -/
def MAt (w : World) (v : Value) (T : Tbl) : Prop := (T = [] ∧ v = .map none) ∨ ∃ b, v = .map (some b) ∧ w.ownsMap Tryd.prog 9 nmR b T.length (tblD T)
theorem nmap_below {w w' : World} {b n : Nat} {D : DataW Value} (h : w.ownsMap Tryd.prog 9 nmR b n D) (hb : Below w.heap.size w w') : w'.ownsMap Tryd.prog 9 nmR b n D := by
  obtain ⟨es, clock, hh, r⟩ := h
  exact ⟨es, clock, (hb.block b (lt_of_block hh)).trans hh, r⟩
theorem MAt.below {w w' : World} {v : Value} {T : Tbl} (h : MAt w v T) (hb : Below w.heap.size w w') : MAt w' v T := h.imp id fun ⟨b, e, h⟩ => ⟨b, e, nmap_below h hb⟩
theorem zeroU (w : World) : (zeroValue 23).run Tryd.prog w = .ok (.int .u32 0) w := by kernel_rfl
/-- What is looked up. -/
theorem look_hit {w : World} {v : Value} {T : Tbl} (hT : tblGood T = true) (h : MAt w v T) {p : ByteArray × Nat} (hp : p ∈ T) (hs : p.1.size ≤ maxLen) :
    (Instr.lookup 93 v (.string p.1) true).run Tryd.prog w = .ok (.tuple #[.int .u32 (p.2 : Nat), .bool true]) w := by
  rcases h with ⟨rfl, _⟩ | ⟨b, rfl, h⟩
  · cases hp
  · obtain ⟨v, ps, hr, hv⟩ := h.look_ok keyS Tryd.underlying93 (zeroU w) (zd := .held (.int .u32 0)) (zp := []) rfl (keyOfS hs)
    rw [at_tbl hT hp] at hv
    rw [(has_tbl T _).2 ⟨p, hp, rfl⟩] at hr
    unfold nmR at hv
    simp only [Option.some.injEq, Prod.mk.injEq, DataW.held.injEq] at hv
    rw [hr, hv.1]
    rfl
theorem look_miss {w : World} {v : Value} {T : Tbl} (h : MAt w v T) {s : ByteArray} (hn : ∀ p ∈ T, p.1 ≠ s) (hs : s.size ≤ maxLen) :
    (Instr.lookup 93 v (.string s) true).run Tryd.prog w = .ok (.tuple #[.int .u32 0, .bool false]) w := by
  rcases h with ⟨rfl, rfl⟩ | ⟨b, rfl, h⟩
  · exact Maps.look_nil true keyS Tryd.underlying93 (zeroU w) (keyOfS hs)
  · obtain ⟨v, ps, hr, hv⟩ := h.look_ok keyS Tryd.underlying93 (zeroU w) (zd := .held (.int .u32 0)) (zp := []) rfl (keyOfS hs)
    have hno : ∀ p ∈ T, nkey p.1 ≠ nkey s := fun p hp e => hn p hp (nkey_inj e)
    have hh : Maps.has (tblD T) (nkey s) = false := by
      cases e : Maps.has (tblD T) (nkey s)
      · rfl
      · obtain ⟨p, hp, e2⟩ := (has_tbl T _).1 e
        exact absurd e2 (hno p hp)
    unfold tblD at hv
    rw [at_miss T _ _ _ hno] at hv
    rw [hh] at hr
    unfold nmR at hv
    have hv' : v = .int .u32 0 := by
      have : (some (DataW.held v, ([] : List MemPlace))) = some (DataW.held (.int .u32 0), ps) := hv
      simp only [Option.some.injEq, Prod.mk.injEq, DataW.held.injEq] at this
      exact this.1
    rw [hr, hv']
/-- The map while it is filled. -/
def NK (w0 : World) (b n : Nat) (D : DataW Value) (w : World) : Prop := w.ownsMap Tryd.prog 9 nmR b n D ∧ Below w0.heap.size w0 w ∧ w0.heap.size ≤ b
theorem nk_new (w : World) : NK w w.heap.size 0 (.map []) (w.alloc (.map #[] 0)) :=
  ⟨World.ownsMap_made w Tryd.prog 9 nmR, ba _ (Below.refl _ _), Nat.le_refl _⟩
theorem wpList_nins (w : World) {ops : Array Oper} {rest : List Oper} {o : Oper} {a : Act} {Q : Exit → Act → World → Prop}
    (hg : o.guard = none) (m x v : Operand) (hop : o.op = Op.insert 93 m x v) {w0 : World} {b n : Nat} {D : DataW Value}
    (hm : a.eval m = .map (some b)) (h : NK w0 b n D w) (hn : n < 100) (k : ByteArray) (hk : k.size ≤ 100) (hx : a.eval x = .string k) (y : Int) (hv : a.eval v = .int .u32 y) (z : Nat) (hz : y = z)
    (hK : ∀ w', NK w0 b (n + 1) (D.put (nkey k) (.held (nval z))) w' → wpList Tryd.prog ops Q rest (a.put o.dst undef) w') : wpList Tryd.prog ops Q (o :: rest) a w := by
  subst hz
  obtain ⟨h1, h2, h3⟩ := h
  refine wpList_insert_own w hg m x v _ hop _ _ keyS Tryd.underlying93 nmR b n D hm h1 (by unfold maxLen; omega) _ _ _ hx hv (keyOfS (by unfold maxLen; omega)) _ [] rfl ?_
  intro w' h1' hg'
  exact hK w' ⟨h1', h2.grown hg' h2.size (fun k hk => by cases hk; exact h3), h3⟩
/-- What a table's making ends with. -/
def MkEnd (T : Tbl) (w : World) (e : Ending) (w' : World) : Prop := ∃ v, e = .returned v ∧ MAt w' v T ∧ Below w.heap.size w w'
theorem mkEnd {T : Tbl} {w w' : World} {n : Nat} (h : NK w w.heap.size n (tblD T) w') (hn : n = T.length) : MkEnd T w (.returned (.map (some w.heap.size))) w' := by
  subst hn
  exact ⟨_, rfl, .inr ⟨_, rfl, h.1⟩, h.2.1⟩
theorem mkNil (w : World) : MkEnd [] w (.returned (.map none)) w := ⟨_, rfl, .inl ⟨rfl, rfl⟩, Below.refl _ _⟩

/-! ### The three tables -/
theorem machines_any (w : World) : Calls Tryd.prog 60 #[] w (MkEnd machT w) := by
  have hend : ∀ w', NK w w.heap.size 4 (tblD machT) w' → MkEnd machT w (.returned (.map (some w.heap.size))) w' := fun w' h => mkEnd h rfl
  have hmm := @run_makeMap Tryd.prog
  have M0 := nk_new w
  go_enter Tryd.func60, Tryd.ntmps60
  go_wp2_with (first | (refine wpList_nins _ rfl _ _ _ rfl rfl (by assumption) (by omega) _ (by decide) rfl _ rfl _ rfl ?_; intro w' h') | go_in)
  go_ret
  exact hend _ (by assumption)
def actTab : Tbl := [(bkillA, 0), (btrap, 196608), (blog, 2147221504), (ballow, 2147418112)]
theorem actTab_good : tblGood actTab = true := by decide
theorem actions_any (w : World) : Calls Tryd.prog 56 #[] w (MkEnd actTab w) := by
  have hend : ∀ w', NK w w.heap.size 4 (tblD actTab) w' → MkEnd actTab w (.returned (.map (some w.heap.size))) w' := fun w' h => mkEnd h rfl
  have hmm := @run_makeMap Tryd.prog
  have M0 := nk_new w
  go_enter Tryd.func56, Tryd.ntmps56
  go_wp2_with (first | (refine wpList_nins _ rfl _ _ _ rfl rfl (by assumption) (by omega) _ (by decide) rfl _ rfl _ rfl ?_; intro w' h') | go_in)
  go_ret
  exact hend _ (by assumption)
theorem eqN {m k : Nat} (h : m = k) : ((m : Int) == (k : Int)) = true := by simp [h]
theorem neN {m k : Nat} (h : m ≠ k) : ((m : Int) == (k : Int)) = false := by simp; omega
theorem calls_any (m : Nat) (w : World) : Calls Tryd.prog 61 #[.int .u32 m] w (MkEnd (callT m) w) := by
  have hmm := @run_makeMap Tryd.prog
  have M0 := nk_new w
  by_cases h1 : m = 3221225534
  · have d1 : ((m : Int) == 3221225534) = true := eqN h1
    have hend : ∀ w', NK w w.heap.size 8 (tblD callX64) w' → MkEnd (callT m) w (.returned (.map (some w.heap.size))) w' := fun w' h => by subst h1; exact mkEnd h rfl
    clear h1
    go_enter Tryd.func61, Tryd.ntmps61
    go_wp2_with (first | (refine wpList_nins _ rfl _ _ _ rfl rfl (by assumption) (by omega) _ (by decide) rfl _ rfl _ rfl ?_; intro w' h') | go_in)
    go_ret
    exact hend _ (by assumption)
  by_cases h2 : m = 1073741827
  · have d1 : ((m : Int) == 3221225534) = false := neN h1
    have d2 : ((m : Int) == 1073741827) = true := eqN h2
    have hend : ∀ w', NK w w.heap.size 8 (tblD callX86) w' → MkEnd (callT m) w (.returned (.map (some w.heap.size))) w' := fun w' h => by subst h2; exact mkEnd h rfl
    clear h1 h2
    go_enter Tryd.func61, Tryd.ntmps61
    go_wp2_with (first | (refine wpList_nins _ rfl _ _ _ rfl rfl (by assumption) (by omega) _ (by decide) rfl _ rfl _ rfl ?_; intro w' h') | go_in)
    go_ret
    exact hend _ (by assumption)
  by_cases h3 : m = 3221225655
  · have d1 : ((m : Int) == 3221225534) = false := neN h1
    have d2 : ((m : Int) == 1073741827) = false := neN h2
    have d3 : ((m : Int) == 3221225655) = true := eqN h3
    have hend : ∀ w', NK w w.heap.size 6 (tblD callA64) w' → MkEnd (callT m) w (.returned (.map (some w.heap.size))) w' := fun w' h => by subst h3; exact mkEnd h rfl
    clear h1 h2 h3
    go_enter Tryd.func61, Tryd.ntmps61
    go_wp2_with (first | (refine wpList_nins _ rfl _ _ _ rfl rfl (by assumption) (by omega) _ (by decide) rfl _ rfl _ rfl ?_; intro w' h') | go_in)
    go_ret
    exact hend _ (by assumption)
  by_cases h4 : m = 1073741864
  · have d1 : ((m : Int) == 3221225534) = false := neN h1
    have d2 : ((m : Int) == 1073741827) = false := neN h2
    have d3 : ((m : Int) == 3221225655) = false := neN h3
    have d4 : ((m : Int) == 1073741864) = true := eqN h4
    have hend : ∀ w', NK w w.heap.size 7 (tblD callArm) w' → MkEnd (callT m) w (.returned (.map (some w.heap.size))) w' := fun w' h => by subst h4; exact mkEnd h rfl
    clear h1 h2 h3 h4
    go_enter Tryd.func61, Tryd.ntmps61
    go_wp2_with (first | (refine wpList_nins _ rfl _ _ _ rfl rfl (by assumption) (by omega) _ (by decide) rfl _ rfl _ rfl ?_; intro w' h') | go_in)
    go_ret
    exact hend _ (by assumption)
  · have d1 : ((m : Int) == 3221225534) = false := neN h1
    have d2 : ((m : Int) == 1073741827) = false := neN h2
    have d3 : ((m : Int) == 3221225655) = false := neN h3
    have d4 : ((m : Int) == 1073741864) = false := neN h4
    have hend : MkEnd (callT m) w (.returned (.map none)) w := by
      have e : callT m = [] := by unfold callT; rw [if_neg h1, if_neg h2, if_neg h3, if_neg h4]
      rw [e]
      exact mkNil w
    clear h1 h2 h3 h4
    go_enter Tryd.func61, Tryd.ntmps61
    go_wp2_with fail
    go_ret
    exact hend
/-! ### A number's name -/
/-- What a look for a number's name ends with. -/
def NameEnd (T : Tbl) (n : Nat) (e : Ending) : Prop :=
  (∃ p ∈ T, p.2 = n ∧ e = .returned (.tuple #[.string p.1, .bool true])) ∨ ((∀ p ∈ T, p.2 ≠ n) ∧ e = .returned (.tuple #[.string ⟨#[]⟩, .bool false]))
theorem wpList_ntbl {T : Tbl} (hT : tblGood T = true) (w : World) {ops : Array Oper} {rest : List Oper} {o : Oper} {a : Act} {Q : Exit → Act → World → Prop}
    (hg : o.guard = none) (it : Operand) (hop : o.op = Op.next it false) (b r n : Nat) (left : Lit → Bool) (cnt : Nat) (hit : a.eval it = .pointer (some ⟨r, 0, none⟩))
    (h : w.ranges Tryd.prog 9 nmR b r n (tblD T) left cnt)
    (hDone : (∀ kl, left kl = false) → wpList Tryd.prog ops Q rest (a.put o.dst (.tuple #[.bool false])) w)
    (hMore : ∀ (p : ByteArray × Nat) (w' : World) (cnt' : Nat), p ∈ T → w'.ranges Tryd.prog 9 nmR b r n (tblD T) (fun z => left z && !z.sameKey (nkey p.1)) cnt' → cnt' < cnt → w.grownBy w' (some r) →
      (Instr.entry (.pointer (some ⟨r, 0, none⟩))).run Tryd.prog w' = .ok (.tuple #[.string p.1, .int .u32 (p.2 : Nat)]) w' → wpList Tryd.prog ops Q rest (a.put o.dst (.tuple #[.bool true, .string p.1, .int .u32 (p.2 : Nat)])) w') :
    wpList Tryd.prog ops Q (o :: rest) a w := by
  refine wpList_next_ranges w hg it hop 9 keyS nmR (fun s : ByteArray => Value.string s) (fun v : Value => v) (fun key kl hk => ?_) (fun v y _ => ⟨v, rfl⟩) b r n (tblD T) left cnt hit h (fun _ hl => hDone hl) ?_
  · obtain ⟨s, rfl, _, _⟩ := WideMaps.string_of_keyOf Tryd.underlying9 hk
    exact ⟨s, rfl⟩
  · intro x c kl y w' cnt' hk hl hR hat hrg hlt hgr _ hen
    obtain ⟨s, e, rfl, _⟩ := WideMaps.string_of_keyOf Tryd.underlying9 hk
    obtain rfl : x = s := by injection e
    have hh : Maps.has (tblD T) (nkey x) = true := Maps.has_true_of_atKey hat
    obtain ⟨p, hp, ep⟩ := (has_tbl T _).1 hh
    have ex := nkey_inj ep
    subst ex
    have hv := hat (.held .nilFunc)
    have h2 := at_tbl hT hp (.held .nilFunc)
    unfold nkey at h2
    rw [h2] at hv
    unfold nmR at hR
    simp only [Option.some.injEq] at hR
    subst hR
    simp only [DataW.held.injEq] at hv
    subst hv
    exact hMore p w' cnt' hp hrg hlt hgr hen
theorem nameOf_nil (n : Nat) (w : World) : Calls Tryd.prog 64 #[.map none, .int .u32 n] w fun e w' => e = .returned (.tuple #[.string ⟨#[]⟩, .bool false]) ∧ Below w.heap.size w w' := by
  have hrg := run_range_nilMap (P := Tryd.prog) w 93 9 23 Tryd.underlying93
  have hnx : ∀ ty, (Instr.next (.pointer (some ⟨w.heap.size, 0, none⟩)) false ty).run Tryd.prog (w.alloc (.mapIter none 0 #[] 0)) = _ := fun ty => run_next_nilMap w ty 0 0 #[]
  go_enter Tryd.func64, Tryd.ntmps64
  go_wp2
  refine wp_loop_rounds 1 ?_
  rw [rounds_succ]
  go_wp2
  go_ret2
  exact ⟨rfl, ba _ (Below.refl _ _)⟩
/-- What has not been found so far. -/
def Past (T : Tbl) (left : Lit → Bool) (n : Nat) : Prop := ∀ p ∈ T, left (nkey p.1) = false → p.2 ≠ n
theorem past_start (T : Tbl) (n : Nat) : Past T (Maps.has (tblD T)) n := fun p hp h => by
  rw [(has_tbl T _).2 ⟨p, hp, rfl⟩] at h
  cases h
theorem past_step {T : Tbl} (hT : tblGood T = true) {left : Lit → Bool} {n : Nat} (h : Past T left n) {p : ByteArray × Nat} (hp : p ∈ T) (hn : p.2 ≠ n) : Past T (fun z => left z && !z.sameKey (nkey p.1)) n := fun q hq e => by
  cases hl : left (nkey q.1)
  · exact h q hq hl
  · have e2 : (left (nkey q.1) && !(nkey q.1).sameKey (nkey p.1)) = false := e
    rw [hl] at e2
    have e3 : (nkey q.1).sameKey (nkey p.1) = true := by simpa using e2
    rw [tbl_names hT hq hp (nkey_inj (WideAt.sameKey_eq e3))]
    exact hn
theorem nameOf_some {T : Tbl} (hT : tblGood T = true) (b n : Nat) (w : World) (hown : w.ownsMap Tryd.prog 9 nmR b T.length (tblD T)) :
    Calls Tryd.prog 64 #[.map (some b), .int .u32 n] w fun e w' => NameEnd T n e ∧ Below w.heap.size w w' := by
  have HTG := Lib.hid hT
  go_enter Tryd.func64, Tryd.ntmps64
  go_wp2_with (first
    | (at_range; refine wpList_range_own _ rfl _ 93 rfl 9 23 keyS Tryd.underlying93 _ b _ _ rfl hown ?_; intro w0 hrg0 hg0 hs0)
    | go_in)
  go_frame
  have hb0 : Below w.heap.size w w0 := (Below.refl _ _).grown hg0 (Nat.le_refl _) (fun k hk => by cases hk)
  clear hg0 hs0 hT hown
  go_loopw [6, 7] (fun _ _ wr => ∃ (left : Lit → Bool) (cnt : Nat), wr.ranges Tryd.prog 9 nmR b w.heap.size T.length (tblD T) left cnt ∧ Below w.heap.size w wr ∧ Past T left n)
    (fun _ _ wr => wr.rangeLeft b w.heap.size)
  case atStart => exact ⟨_, _, hrg0, hb0, past_start T n⟩
  case round =>
    obtain ⟨left, cnt, hrg, hbw, hpa⟩ := hrel
    have HB := Lib.hid hbw
    have HP := Lib.hid hpa
    clear hrg0 hb0 hbw hpa
    go_wp2_with (first
      | (at_next; refine wpList_ntbl HTG.out _ rfl _ rfl b w.heap.size _ _ _ rfl hrg ?_ ?_)
      | go_in)
    · intro hl
      have HE : Hid (NameEnd T n (.returned (.tuple #[.string ⟨#[]⟩, .bool false]))) := Lib.hid (.inr ⟨fun p hp => HP.out p hp (hl _), rfl⟩)
      clear hl
      go_wp2
      go_ret2
      exact ⟨HE.out, HB.out⟩
    · intro pk pn w1 cnt1 hp hrg1 hlt hgr hen
      have HB1 : Hid (Below w.heap.size w w1) := Lib.hid (HB.out.grown hgr HB.out.size (fun k hk => by cases hk; exact Nat.le_refl _))
      have HM := Lib.hid (show w1.rangeLeft b w.heap.size < wr.rangeLeft b w.heap.size by rw [hrg1.left_eq, hrg.left_eq]; exact hlt)
      have HRG := Lib.hid hrg1
      clear hgr hlt hrg hrg1
      by_cases hq : pn = n
      · have hqd : ((pn : Int) == (n : Int)) = true := eqN hq
        have HE : Hid (NameEnd T n (.returned (.tuple #[.string pk, .bool true]))) := Lib.hid (.inl ⟨(pk, pn), hp, hq, rfl⟩)
        clear hq hp
        go_wp2
        go_ret2
        exact ⟨HE.out, HB1.out⟩
      · have hqd : ((pn : Int) == (n : Int)) = false := neN hq
        have HP1 := Lib.hid (past_step HTG.out HP.out hp hq)
        clear hq hp
        go_wp2
        go_roundw
        case rel => exact ⟨_, _, HRG.out, HB1.out, HP1.out⟩
        case measure => exact HM.out
theorem nameOf_any {T : Tbl} (hT : tblGood T = true) (v : Value) (n : Nat) (w : World) (hv : MAt w v T) :
    Calls Tryd.prog 64 #[v, .int .u32 n] w fun e w' => NameEnd T n e ∧ Below w.heap.size w w' := by
  rcases hv with ⟨rfl, rfl⟩ | ⟨b, rfl, h⟩
  · refine (nameOf_nil n w).mono ?_
    rintro e w' ⟨rfl, hb⟩
    exact ⟨.inr ⟨by simp, rfl⟩, hb⟩
  · exact nameOf_some hT b n w h
/-- What the reading of a name ends with. -/
def PNEnd (T : Tbl) (s : ByteArray) (e : Ending) : Prop := ∃ o : Option Nat, readN T s o ∧ e = .returned (.tuple #[.int .u32 (o.getD 0 : Nat), .int .i64 (if o.isSome then 0 else 2)])
theorem pnEnd_some {T : Tbl} {s : ByteArray} {n : Nat} (h : readN T s (some n)) : PNEnd T s (.returned (.tuple #[.int .u32 (n : Nat), .int .i64 0])) := ⟨some n, h, rfl⟩
theorem pnEnd_none {T : Tbl} {s : ByteArray} (h : readN T s none) : PNEnd T s (.returned (.tuple #[.int .u32 0, .int .i64 2])) := ⟨none, h, rfl⟩
theorem pn_letters {T : Tbl} {s : ByteArray} {e : Ending} (h : PNEnd T s e) : ∃ x c : Int, e = .returned (.tuple #[.int .u32 x, .int .i64 c]) ∧ Hid (PNEnd T s (.returned (.tuple #[.int .u32 x, .int .i64 c]))) := by
  obtain ⟨o, ho, rfl⟩ := h
  exact ⟨_, _, rfl, Lib.hid ⟨o, ho, rfl⟩⟩
set_option maxHeartbeats 2000000 in
theorem nread_any {T : Tbl} (hT : tblGood T = true) (v : Value) (s : ByteArray) (w : World) (hs : s.size ≤ 4611686018427387904) (hv : MAt w v T) :
    Calls Tryd.prog 59 #[v, .string s] w fun e w' => PNEnd T s e ∧ Below w.heap.size w w' := by
  have HV := Lib.hid hv
  have HT := Lib.hid hT
  by_cases hx : ∃ p ∈ T, p.1 = s
  · obtain ⟨p, hp, rfl⟩ := hx
    have hl := look_hit hT hv hp (by unfold maxLen; omega)
    have HR : Hid (readN T p.1 (some p.2)) := Lib.hid ⟨tbl_small hT hp, (textN_of hT hp).symm⟩
    clear hv hT hp
    go_enter Tryd.func59, Tryd.ntmps59
    go_wp2_with fail
    go_ret2
    exact ⟨pnEnd_some HR.out, Below.refl _ _⟩
  · have hno : ∀ p ∈ T, p.1 ≠ s := fun p hp e => hx ⟨p, hp, e⟩
    have hl := look_miss hv hno (by unfold maxLen; omega)
    have HNO := Lib.hid hno
    clear hv hT hx hno
    go_enter Tryd.func59, Tryd.ntmps59
    go_wp2_with fail
    refine (parse_any s _ hs).mono ?_
    rintro e w1 ⟨hE, hb1⟩
    have HB1 := Lib.hid hb1
    have HV1 := Lib.hid (HV.out.below hb1)
    clear hb1 hl
    rcases hE with ⟨n, hn, he, rfl⟩ | ⟨hn, rfl⟩
    · have HS := Lib.hid he
      clear he
      by_cases hm : n < 4294967296
      · have hmd : decide (4294967295 < (n : Int)) = false := by simp; omega
        have hm2 : ¬ 4294967295 < (n : Int) := by omega
        have hwr : IntKind.u32.wrap (n : Int) = (n : Int) := by unfold IntKind.wrap; simp [IntKind.bits, IntKind.signed]; omega
        go_wp2_with fail
        refine (nameOf_any HT.out v n _ HV1.out).mono ?_
        rintro e w2 ⟨hE, hb2⟩
        have HB2 := Lib.hid (below2 HB1.out hb2)
        clear hb2
        rcases hE with ⟨p, hp, hq, rfl⟩ | ⟨hnn, rfl⟩
        · have HR : Hid (readN T s none) := Lib.hid (readN_no HNO.out (fun k _ e e2 => by
            have : n = k := Wd.txt_inj (HS.out.symm.trans e)
            subst this
            rw [← hq, textN_of HT.out hp] at e2
            exact HNO.out p hp e2))
          clear hp hq
          go_wp2_with fail
          go_ret2
          exact ⟨pnEnd_none HR.out, HB2.out⟩
        · have HR : Hid (readN T s (some n)) := Lib.hid ⟨hm, by
            rcases textN_is T n with ⟨p, hp, hq, _⟩ | ⟨_, h⟩
            · exact absurd hq (hnn p hp)
            · rw [h]; exact HS.out⟩
          clear hnn
          go_wp2_with fail
          go_ret2
          exact ⟨pnEnd_some HR.out, HB2.out⟩
      · have hm2 : 4294967295 < (n : Int) := by omega
        have HR : Hid (readN T s none) := Lib.hid (readN_no HNO.out (fun k hk e _ => by
          have : n = k := Wd.txt_inj (HS.out.symm.trans e)
          omega))
        go_wp2_with fail
        go_ret2
        exact ⟨pnEnd_none HR.out, HB1.out⟩
    · have HR : Hid (readN T s none) := Lib.hid (readN_no HNO.out (fun k hk e _ => hn k (by omega) e))
      clear hn
      go_wp2_with fail
      go_ret2
      exact ⟨pnEnd_none HR.out, HB1.out⟩
/-! ### Machines and calls -/
theorem nreadmachine_any (s : ByteArray) (w : World) (hs : s.size ≤ 4611686018427387904) (_ht : Tab w) :
    Calls Tryd.prog 40 #[.string s] w fun e w' => PNEnd machT s e ∧ Below w.heap.size w w' := by
  go_enter Tryd.func40, Tryd.ntmps40
  go_wp2_with fail
  refine (machines_any _).mono ?_
  rintro e w1 ⟨v, rfl, hm, hb1⟩
  have HM := Lib.hid hm
  have HB1 := Lib.hid hb1
  clear hm hb1
  go_wp2_with fail
  refine (nread_any machT_good v s _ hs HM.out).mono ?_
  rintro e w2 ⟨hE, hb2⟩
  obtain ⟨x, c, rfl, HO⟩ := pn_letters hE
  have HB2 := Lib.hid (below2 HB1.out hb2)
  clear hb2 hE
  go_wp2_with fail
  go_ret2
  exact ⟨HO.out, HB2.out⟩
theorem nreadcall_any (m : Nat) (s : ByteArray) (w : World) (_hm : m < 4294967296) (hs : s.size ≤ 4611686018427387904) (_ht : Tab w) :
    Calls Tryd.prog 41 #[.int .u32 m, .string s] w fun e w' => PNEnd (callT m) s e ∧ Below w.heap.size w w' := by
  go_enter Tryd.func41, Tryd.ntmps41
  go_wp2_with fail
  refine (calls_any m _).mono ?_
  rintro e w1 ⟨v, rfl, hm, hb1⟩
  have HM := Lib.hid hm
  have HB1 := Lib.hid hb1
  clear hm hb1
  go_wp2_with fail
  refine (nread_any (callT_good m) v s _ hs HM.out).mono ?_
  rintro e w2 ⟨hE, hb2⟩
  obtain ⟨x, c, rfl, HO⟩ := pn_letters hE
  have HB2 := Lib.hid (below2 HB1.out hb2)
  clear hb2 hE
  go_wp2_with fail
  go_ret2
  exact ⟨HO.out, HB2.out⟩
/-! ### Actions -/
theorem act_named {v : Nat} {p : ByteArray × Nat} (hp : p ∈ actTab) (hv : p.2 = v) : actT v = some p.1 := by
  subst hv
  unfold actTab at hp
  simp only [List.mem_cons, List.not_mem_nil, or_false] at hp
  unfold actT
  rcases hp with rfl | rfl | rfl | rfl
  · show (if 327680 ≤ 0 ∧ 0 ≤ 331775 then _ else _) = _
    rw [if_neg (by omega), if_pos rfl]
  · show (if 327680 ≤ 196608 ∧ 196608 ≤ 331775 then _ else _) = _
    rw [if_neg (by omega), if_neg (by decide), if_pos rfl]
  · show (if 327680 ≤ 2147221504 ∧ 2147221504 ≤ 331775 then _ else _) = _
    rw [if_neg (by omega), if_neg (by decide), if_neg (by decide), if_pos rfl]
  · show (if 327680 ≤ 2147418112 ∧ 2147418112 ≤ 331775 then _ else _) = _
    rw [if_neg (by omega), if_neg (by decide), if_neg (by decide), if_neg (by decide), if_pos rfl]
theorem act_unnamed {v : Nat} (h : ∀ p ∈ actTab, p.2 ≠ v) : actT v = if 327680 ≤ v ∧ v ≤ 331775 then some (berror ++ Wd.txt (v - 327680)) else none := by
  have h0 : v ≠ 0 := fun e => h (bkillA, 0) (by unfold actTab; simp) e.symm
  have h1 : v ≠ 196608 := fun e => h (btrap, 196608) (by unfold actTab; simp) e.symm
  have h2 : v ≠ 2147221504 := fun e => h (blog, 2147221504) (by unfold actTab; simp) e.symm
  have h3 : v ≠ 2147418112 := fun e => h (ballow, 2147418112) (by unfold actTab; simp) e.symm
  unfold actT
  rw [if_neg h0, if_neg h1, if_neg h2, if_neg h3]
/-- What an action's text ends with. -/
def ActEnd (v : Nat) (e : Ending) : Prop := e = .returned (.tuple #[.string (actS v), .int .i64 (if (actT v).isSome then 0 else 1)])
theorem actEnd_some {v : Nat} {s : ByteArray} (h : actT v = some s) : ActEnd v (.returned (.tuple #[.string s, .int .i64 0])) := by
  unfold ActEnd actS
  rw [h]
  rfl
theorem actEnd_none {v : Nat} (h : actT v = none) : ActEnd v (.returned (.tuple #[.string ⟨#[]⟩, .int .i64 1])) := by
  unfold ActEnd actS
  rw [h]
  rfl
set_option maxRecDepth 100000 in
set_option maxHeartbeats 2000000 in
theorem naction_gen (v : Nat) (w : World) (hv : v < 4294967296) (ht : Tab w) (E : Ending → Prop) (hE1 : ∀ s, actT v = some s → E (.returned (.tuple #[.string s, .int .i64 0]))) (hE2 : actT v = none → E (.returned (.tuple #[.string ⟨#[]⟩, .int .i64 1]))) :
    Calls Tryd.prog 43 #[.int .u32 v] w fun e w' => E e ∧ Below w.heap.size w w' := by
  have HE1 := Lib.hid hE1
  have HE2 := Lib.hid hE2
  clear hE1 hE2
  have HTab := Lib.hid ht
  clear ht
  go_enter Tryd.func43, Tryd.ntmps43
  go_wp2_with fail
  refine (actions_any _).mono ?_
  rintro e w1 ⟨t, rfl, hm, hb1⟩
  have HM := Lib.hid hm
  have HB1 := Lib.hid hb1
  clear hm hb1
  go_wp2_with fail
  refine (nameOf_any actTab_good t v _ HM.out).mono ?_
  rintro e w2 ⟨hE, hb2⟩
  have HB2 := Lib.hid (below2 HB1.out hb2)
  clear hb2
  rcases hE with ⟨p, hp, hq, rfl⟩ | ⟨hno, rfl⟩
  · have HR := Lib.hid (HE1.out _ (act_named hp hq))
    clear hp hq
    go_wp2_with fail
    go_ret2
    exact ⟨HR.out, HB2.out⟩
  · have HA := Lib.hid (act_unnamed hno)
    clear hno
    by_cases h1 : v < 327680
    · have d1 : decide ((v : Int) < 327680) = true := by simp; omega
      have HR := Lib.hid (HE2.out (by rw [HA.out, if_neg (by omega)]))
      clear h1 HE1 HE2 HA
      generalize (v : Int) = A at d1 ⊢
      go_wp2_with fail
      go_ret2
      exact ⟨HR.out, HB2.out⟩
    by_cases h2 : 331775 < v
    · have d1 : decide ((v : Int) < 327680) = false := by simp; omega
      have d2 : decide ((331775 : Int) < (v : Int)) = true := by simp; omega
      have HR := Lib.hid (HE2.out (by rw [HA.out, if_neg (by omega)]))
      clear h1 h2 HE1 HE2 HA
      generalize (v : Int) = A at d1 d2 ⊢
      go_wp2_with fail
      go_ret2
      exact ⟨HR.out, HB2.out⟩
    · obtain ⟨m, hm⟩ : ∃ m, v = 327680 + m := ⟨v - 327680, by omega⟩
      have HR := Lib.hid (HE1.out _ (by rw [HA.out, if_pos (by omega)]))
      rw [show v - 327680 = m by omega, show berror = ⟨#[101, 114, 114, 111, 114, 58]⟩ from rfl] at HR
      have HT : Hid (Calls Tryd.prog 65 #[.int .u64 (m : Nat)] w2 fun e w' => e = .returned (.string (Wd.txt m)) ∧ Below w2.heap.size w2 w') := Lib.hid (text_any m w2 (by omega) (HTab.out.below HB2.out))
      have hz := txt_lt18 (n := m) (by omega)
      have hzE : (⟨#[101, 114, 114, 111, 114, 58]⟩ : ByteArray).size = 6 := rfl
      have l1 : ¬ (v : Int) < 327680 := by omega
      have l2 : ¬ (331775 : Int) < (v : Int) := by omega
      have l3 : IntKind.u32.wrap ((v : Int) - 327680) = (m : Int) := by unfold IntKind.wrap; simp [IntKind.bits, IntKind.signed]; omega
      have hml : m < 4096 := by omega
      clear h1 h2 HE1 HE2 HA hm
      generalize (v : Int) = A at l1 l2 l3 ⊢
      generalize Wd.txt m = TX at HT HR hz
      go_wp2_with fail
      refine HT.out.mono ?_
      rintro e w3 ⟨rfl, hb3⟩
      have HB3 := Lib.hid (below2 HB2.out hb3)
      clear hb3
      go_wp2_with fail
      go_ret2
      exact ⟨HR.out, HB3.out⟩
theorem naction_end (v : Nat) (w : World) (hv : v < 4294967296) (ht : Tab w) :
    Calls Tryd.prog 43 #[.int .u32 v] w fun e w' => ActEnd v e ∧ Below w.heap.size w w' := naction_gen v w hv ht (ActEnd v) (fun _ h => actEnd_some h) actEnd_none
theorem naction_any (v : Nat) (w : World) (hv : v < 4294967296) (ht : Tab w) :
    Calls Tryd.prog 43 #[.int .u32 v] w fun e w' => e = .returned (.tuple #[.string (actS v), .int .i64 (if (actT v).isSome then 0 else 1)]) ∧ Below w.heap.size w w' := naction_end v w hv ht
/-! ### What is read of an action's text -/
theorem hasPrefix_yes (p r : ByteArray) (w : World) (_hz : (p ++ r).size ≤ 4611686018427387904) :
    Calls Tryd.prog 79 #[.string (p ++ r), .string p] w fun e w' => e = .returned (.bool true) ∧ w' = w := by
  have hs : (p ++ r).size = p.size + r.size := ByteArray.size_append
  have h1 : decide ((p.size : Int) ≤ ((p ++ r).size : Int)) = true := by simp; omega
  have h2 : (p ++ r).extract 0 p.size = p := by
    apply ByteArray.ext
    simp
  have h3 : (((p ++ r).extract 0 p.size).toList == p.toList) = true := by rw [h2]; exact beq_self_eq_true _
  go_enter Tryd.func79, Tryd.ntmps79
  go_wp2_with fail
  go_ret
  exact ⟨rfl, rfl⟩
theorem hasPrefix_no (s p : ByteArray) (w : World) (hno : ∀ r, s ≠ p ++ r) :
    Calls Tryd.prog 79 #[.string s, .string p] w fun e w' => e = .returned (.bool false) ∧ w' = w := by
  by_cases hl : p.size ≤ s.size
  · have h1 : decide ((p.size : Int) ≤ (s.size : Int)) = true := by simp; omega
    have h3 : ((s.extract 0 p.size).toList == p.toList) = false := by
      refine beq_ne fun e => hno (s.extract p.size s.size) ?_
      have e2 : s.extract 0 p.size ++ s.extract p.size s.size = s := by
        apply ByteArray.ext
        apply Array.ext'
        simp
      rw [e] at e2
      exact e2.symm
    clear hno
    go_enter Tryd.func79, Tryd.ntmps79
    go_wp2_with fail
    go_ret
    exact ⟨rfl, rfl⟩
  · have h1 : decide ((p.size : Int) ≤ (s.size : Int)) = false := by simp; omega
    clear hno
    go_enter Tryd.func79, Tryd.ntmps79
    go_wp2_with fail
    go_ret
    exact ⟨rfl, rfl⟩
theorem cutLite_yes (p r : ByteArray) (w : World) (hz : (p ++ r).size ≤ 4611686018427387904) :
    Calls Tryd.prog 71 #[.string (p ++ r), .string p] w fun e w' => e = .returned (.tuple #[.string r, .bool true]) ∧ w' = w := by
  have HP := Lib.hid (hasPrefix_yes p r w hz)
  have hs : (p ++ r).size = p.size + r.size := ByteArray.size_append
  have h2 : (p ++ r).extract p.size (p ++ r).size = r := by
    apply ByteArray.ext
    simp [hs]
    rw [Array.extract_empty_of_size_le_start (by show p.data.size ≤ p.data.size; omega)]
    show #[] ++ r.data.extract 0 r.data.size = r.data
    simp
  have h2' : (p ++ r).extract p.size (p.size + r.size) = r := by rw [← hs]; exact h2
  have hl : p.size ≤ (p ++ r).size := by omega
  go_enter Tryd.func71, Tryd.ntmps71
  go_wp2_with fail
  refine HP.out.mono ?_
  rintro e w1 ⟨rfl, rfl⟩
  go_wp2_with fail
  go_ret2
  exact ⟨rfl, rfl⟩
theorem cutLite_no (s p : ByteArray) (w : World) (hno : ∀ r, s ≠ p ++ r) :
    Calls Tryd.prog 71 #[.string s, .string p] w fun e w' => e = .returned (.tuple #[.string s, .bool false]) ∧ w' = w := by
  have HP := Lib.hid (hasPrefix_no s p w hno)
  clear hno
  go_enter Tryd.func71, Tryd.ntmps71
  go_wp2_with fail
  refine HP.out.mono ?_
  rintro e w1 ⟨rfl, rfl⟩
  go_wp2_with fail
  go_ret2
  exact ⟨rfl, rfl⟩
theorem cutPrefix_yes (p r : ByteArray) (w : World) (hz : (p ++ r).size ≤ 4611686018427387904) :
    Calls Tryd.prog 57 #[.string (p ++ r), .string p] w fun e w' => e = .returned (.tuple #[.string r, .bool true]) ∧ w' = w := by
  have HP := Lib.hid (cutLite_yes p r w hz)
  go_enter Tryd.func57, Tryd.ntmps57
  go_wp2_with fail
  refine HP.out.mono ?_
  rintro e w1 ⟨rfl, rfl⟩
  go_wp2_with fail
  go_ret2
  exact ⟨rfl, rfl⟩
theorem cutPrefix_no (s p : ByteArray) (w : World) (hno : ∀ r, s ≠ p ++ r) :
    Calls Tryd.prog 57 #[.string s, .string p] w fun e w' => e = .returned (.tuple #[.string s, .bool false]) ∧ w' = w := by
  have HP := Lib.hid (cutLite_no s p w hno)
  clear hno
  go_enter Tryd.func57, Tryd.ntmps57
  go_wp2_with fail
  refine HP.out.mono ?_
  rintro e w1 ⟨rfl, rfl⟩
  go_wp2_with fail
  go_ret2
  exact ⟨rfl, rfl⟩
/-- What the reading of an action ends with. -/
def PAEnd (s : ByteArray) (e : Ending) : Prop := ∃ o : Option Nat, readA s o ∧ e = .returned (.tuple #[.int .u32 (o.getD 0 : Nat), .int .i64 (if o.isSome then 0 else 2)])
theorem paEnd_some {s : ByteArray} {n : Nat} (h : readA s (some n)) : PAEnd s (.returned (.tuple #[.int .u32 (n : Nat), .int .i64 0])) := ⟨some n, h, rfl⟩
theorem paEnd_none {s : ByteArray} (h : readA s none) : PAEnd s (.returned (.tuple #[.int .u32 0, .int .i64 2])) := ⟨none, h, rfl⟩
theorem act_none {s : ByteArray} (h1 : ∀ p ∈ actTab, p.1 ≠ s) (h2 : ∀ n, n < 4096 → s ≠ berror ++ Wd.txt n) : readA s none := by
  intro v _ e
  rcases actT_some e with ⟨n, hn, _, e2⟩ | ⟨_, e2⟩ | ⟨_, e2⟩ | ⟨_, e2⟩ | ⟨_, e2⟩
  · exact h2 n hn e2
  · exact h1 (bkillA, 0) (by unfold actTab; simp) e2.symm
  · exact h1 (btrap, 196608) (by unfold actTab; simp) e2.symm
  · exact h1 (blog, 2147221504) (by unfold actTab; simp) e2.symm
  · exact h1 (ballow, 2147418112) (by unfold actTab; simp) e2.symm
theorem app_inj {p a b : ByteArray} (h : p ++ a = p ++ b) : a = b := by
  have e := congrArg (fun x : ByteArray => x.data.toList) h
  simp only [ByteArray.data_append, Array.toList_append] at e
  exact ByteArray.ext (Array.ext' (List.append_cancel_left e))
theorem act_err {n : Nat} (h : n < 4096) : actT (327680 + n) = some (berror ++ Wd.txt n) := by
  have e : actT (327680 + n) = some (berror ++ Wd.txt (327680 + n - 327680)) := by
    unfold actT
    rw [if_pos ⟨by omega, by omega⟩]
  rw [e, show 327680 + n - 327680 = n by omega]
set_option maxHeartbeats 2000000 in
theorem nreadaction_any (s : ByteArray) (w : World) (hs : s.size ≤ 4611686018427387904) (_ht : Tab w) :
    Calls Tryd.prog 38 #[.string s] w fun e w' => PAEnd s e ∧ Below w.heap.size w w' := by
  have HS := Lib.hid hs
  by_cases hx : ∃ p ∈ actTab, p.1 = s
  · obtain ⟨p, hp, rfl⟩ := hx
    have HL : Hid (∀ (V : World) (v : Value), MAt V v actTab → (Instr.lookup 93 v (.string p.1) true).run Tryd.prog V = .ok (.tuple #[.int .u32 (p.2 : Nat), .bool true]) V) := Lib.hid (fun V v h => look_hit actTab_good h hp (by unfold maxLen; omega))
    have HR := Lib.hid (paEnd_some (s := p.1) ⟨tbl_small actTab_good hp, act_named hp rfl⟩)
    clear hs hp
    go_enter Tryd.func38, Tryd.ntmps38
    go_wp2_with fail
    refine (actions_any _).mono ?_
    rintro e w1 ⟨v, rfl, hm, hb1⟩
    have hl := HL.out _ _ hm
    have HB1 := Lib.hid hb1
    clear hm hb1
    go_wp2_with fail
    go_ret2
    exact ⟨HR.out, HB1.out⟩
  · have hno : ∀ p ∈ actTab, p.1 ≠ s := fun p hp e => hx ⟨p, hp, e⟩
    have HL : Hid (∀ (V : World) (v : Value), MAt V v actTab → (Instr.lookup 93 v (.string s) true).run Tryd.prog V = .ok (.tuple #[.int .u32 0, .bool false]) V) := Lib.hid (fun V v h => look_miss h hno (by unfold maxLen; omega))
    have HNO := Lib.hid hno
    clear hx hno hs
    go_enter Tryd.func38, Tryd.ntmps38
    go_wp2_with fail
    refine (actions_any _).mono ?_
    rintro e w1 ⟨v, rfl, hm, hb1⟩
    have hl := HL.out _ _ hm
    have HB1 := Lib.hid hb1
    clear hm hb1
    by_cases hpre : ∃ r, s = berror ++ r
    · obtain ⟨r, hr⟩ := hpre
      have HC : Hid (∀ V : World, Calls Tryd.prog 57 #[.string s, .string ⟨#[101, 114, 114, 111, 114, 58]⟩] V fun e w' => e = .returned (.tuple #[.string r, .bool true]) ∧ w' = V) := Lib.hid (fun V => by
        have := cutPrefix_yes berror r V (by rw [← hr]; exact HS.out)
        rw [← hr] at this
        exact this)
      have HZ : Hid (r.size ≤ 4611686018427387904) := Lib.hid (by
        have := HS.out
        rw [hr, ByteArray.size_append] at this
        omega)
      have HRS := Lib.hid hr
      clear hr
      go_wp2_with fail
      refine (HC.out _).mono ?_
      rintro e w2 ⟨rfl, rfl⟩
      clear hl
      go_wp2_with fail
      refine (parse_any r _ HZ.out).mono ?_
      rintro e w3 ⟨hE, hb3⟩
      have HB3 := Lib.hid (below2 HB1.out hb3)
      clear hb3
      rcases hE with ⟨n, hn, he, rfl⟩ | ⟨hn, rfl⟩
      · have HT := Lib.hid he
        clear he
        by_cases hm : n < 4096
        · have hm2 : ¬ 4095 < (n : Int) := by omega
          have hwr : IntKind.u32.wrap (n : Int) = (n : Int) := by unfold IntKind.wrap; simp [IntKind.bits, IntKind.signed]; omega
          have hwr2 : IntKind.u32.wrap (327680 + (n : Int)) = ((327680 + n : Nat) : Int) := by unfold IntKind.wrap; simp [IntKind.bits, IntKind.signed]; omega
          have HR := Lib.hid (paEnd_some (s := s) (n := 327680 + n) ⟨by omega, by rw [HRS.out, HT.out]; exact act_err hm⟩)
          obtain ⟨f, hf⟩ : ∃ f, f = 327680 + n := ⟨_, rfl⟩
          rw [← hf] at hwr2 HR
          clear hf
          go_wp2_with fail
          go_ret2
          exact ⟨HR.out, HB3.out⟩
        · have hm2 : 4095 < (n : Int) := by omega
          have HR := Lib.hid (paEnd_none (act_none HNO.out (fun k hk e => by
            rw [HRS.out, HT.out] at e
            have : n = k := err_inj e
            omega)))
          go_wp2_with fail
          go_ret2
          exact ⟨HR.out, HB3.out⟩
      · have HR := Lib.hid (paEnd_none (act_none HNO.out (fun k hk e => by
          rw [HRS.out] at e
          exact hn k (by omega) (app_inj e))))
        clear hn
        go_wp2_with fail
        go_ret2
        exact ⟨HR.out, HB3.out⟩
    · have hno : ∀ r, s ≠ berror ++ r := fun r e => hpre ⟨r, e⟩
      have HC : Hid (∀ V : World, Calls Tryd.prog 57 #[.string s, .string ⟨#[101, 114, 114, 111, 114, 58]⟩] V fun e w' => e = .returned (.tuple #[.string s, .bool false]) ∧ w' = V) := Lib.hid (fun V => cutPrefix_no s berror V hno)
      have HR := Lib.hid (paEnd_none (act_none HNO.out (fun k _ e => hno _ e)))
      clear hpre hno
      go_wp2_with fail
      refine (HC.out _).mono ?_
      rintro e w2 ⟨rfl, rfl⟩
      clear hl
      go_wp2_with fail
      refine (parse_any s _ HS.out).mono ?_
      rintro e w3 ⟨hE, hb3⟩
      have HB3 := Lib.hid (below2 HB1.out hb3)
      clear hb3
      obtain ⟨x, c, rfl⟩ : ∃ x c : Int, e = .returned (.tuple #[.int .u64 x, .int .i64 c]) := by
        rcases hE with ⟨n, _, _, rfl⟩ | ⟨_, rfl⟩
        · exact ⟨_, _, rfl⟩
        · exact ⟨_, _, rfl⟩
      clear hE
      go_wp2_with fail
      go_ret2
      exact ⟨HR.out, HB3.out⟩
end Go.Proofs.YtbhondjfilohdaaDoor
/-
  Package cond: what Right, Not and Holds answer.
-/
namespace Go.Proofs.YtbhondjfilohdaaDoor
open Go.ChangeShapes Go.WideShapes Go.ChangeAt Go.RowKit
set_option maxRecDepth 100000

/-- The tables that package cond reads. -/
def QTab (w : World) : Prop := Tab w
theorem QTab.below {w w' : World} (h : QTab w) (hb : Below w.heap.size w w') : QTab w' := Tab.below h hb

/-- The function of a comparison's row. -/
def fnC (k : Int) : Value := if k = 0 then .func (.func 45) #[] #[] else if k = 1 then .func (.func 46) #[] #[] else if k = 2 then .func (.func 47) #[] #[] else if k = 3 then .func (.func 48) #[] #[] else if k = 4 then .func (.func 49) #[] #[] else .func (.func 50) #[] #[]
theorem fnC_one (k : Int) : (fnC k).oneCell' = true := by
  unfold fnC
  repeat' split
  all_goals rfl
def cmpCells : Array Value := #[.string (wordT 0), .int .i64 1, fnC 0, .string (wordT 1), .int .i64 0, fnC 1, .string (wordT 2), .int .i64 5, fnC 2, .string (wordT 3), .int .i64 4, fnC 3, .string (wordT 4), .int .i64 3, fnC 4, .string (wordT 5), .int .i64 2, fnC 5]
theorem cmpCells_at {k : Nat} (h : k < 6) : cmpCells[k * 3]? = some (.string (wordT k)) ∧ cmpCells[k * 3 + 1]? = some (.int .i64 (notK k)) ∧ cmpCells[k * 3 + 2]? = some (fnC k) := by
  match k, h with
  | 0, _ => exact ⟨rfl, rfl, rfl⟩
  | 1, _ => exact ⟨rfl, rfl, rfl⟩
  | 2, _ => exact ⟨rfl, rfl, rfl⟩
  | 3, _ => exact ⟨rfl, rfl, rfl⟩
  | 4, _ => exact ⟨rfl, rfl, rfl⟩
  | 5, _ => exact ⟨rfl, rfl, rfl⟩
theorem cmpCells_lit : cmpCells = #[.string ⟨#[101, 113]⟩, .int .i64 1, .func (.func 45) #[] #[], .string ⟨#[110, 101]⟩, .int .i64 0, .func (.func 46) #[] #[], .string ⟨#[108, 116]⟩, .int .i64 5, .func (.func 47) #[] #[], .string ⟨#[108, 101]⟩, .int .i64 4, .func (.func 48) #[] #[], .string ⟨#[103, 116]⟩, .int .i64 3, .func (.func 49) #[] #[], .string ⟨#[103, 101]⟩, .int .i64 2, .func (.func 50) #[] #[]] := rfl

/-- A function is stored. -/
theorem run_storeF {F : Value} (hF : F.oneCell' = true) (a : Addr) (w : World) : (store a F).run Tryd.prog w = match w.cell? a with
      | some _ => if w.frozen? a then .halt (.unsupported (.unsafePointer "a write to bytes that a string shares")) w else .ok () (w.setCell a F)
      | none => match w.farStore Tryd.prog a F (Mode.plain == .atomic) with
        | .ok (w', _) => .ok () w'
        | .error h => .halt h w := run_store _ w a F _ hF
theorem comparisons_any (w : World) : Calls Tryd.prog 34 #[] w fun e w' => e = .returned (.slice (some ⟨w.heap.size, 0, none⟩) 6 6) ∧ w' = w.alloc (.cells cmpCells 63) := by
  go_enter Tryd.func34, Tryd.ntmps34
  go_wp2_with fail
  go_ret
  rw [cmpCells_lit]
  exact ⟨rfl, rfl⟩

/-- What a valid condition's comparison is, and of one that is not valid. -/
abbrev rowV (k : Int) : Value := .agg #[.string (wordT k), .int .i64 (notK k), fnC k]
abbrev noRow : Value := .agg #[.string ⟨#[]⟩, .int .i64 0, .nilFunc]
theorem compOf_good (c : Cd) (w : World) (hr : c.right = true) :
    Calls Tryd.prog 26 #[c.val] w fun e w' => e = .returned (.tuple #[rowV c.cmp, .bool true]) ∧ Below w.heap.size w w' := by
  have hrr := (c.right_iff).1 hr
  clear hr
  obtain ⟨arg, cmp, mask, value⟩ := c
  simp only at hrr ⊢
  obtain ⟨a0, a5, k0, k5⟩ := hrr
  obtain ⟨n, rfl⟩ : ∃ n : Nat, cmp = n := ⟨cmp.toNat, by omega⟩
  obtain ⟨m, rfl⟩ : ∃ n : Nat, arg = n := ⟨arg.toNat, by omega⟩
  obtain ⟨W, hW, X0, X1, HBx⟩ := box2 w (cdB ⟨m, n, mask, value⟩) (.cells #[.string ⟨#[]⟩, .int .i64 0, .nilFunc] 63)
  have HX0 := Lib.hid X0
  have HX1 := Lib.hid X1
  have HB := Lib.hid HBx
  have hn6 : n < 6 := by omega
  clear X0 X1 HBx
  go_enter Tryd.func26, Tryd.ntmps26
  go_upto_region 1 with fail
  rw [← hW]
  clear hW
  go_wp2_with fail
  refine (comparisons_any _).mono ?_
  rintro e w1 ⟨rfl, hw1⟩
  have HC1 : Hid (w1.heap[W.heap.size]? = some (.cells cmpCells 63)) := Lib.hid (by rw [hw1]; exact heap_alloc_new W _)
  have HX01 : Hid (w1.heap[w.heap.size]? = some (cdB ⟨m, n, mask, value⟩)) := Lib.hid (by rw [hw1]; exact ka _ HX0.out)
  have HX11 : Hid (w1.heap[w.heap.size + 1]? = some (.cells #[.string ⟨#[]⟩, .int .i64 0, .nilFunc] 63)) := Lib.hid (by rw [hw1]; exact ka _ HX1.out)
  have HB1 : Hid (Below w.heap.size w w1) := Lib.hid (by rw [hw1]; exact ba _ HB.out)
  clear hw1 HX0 HX1 HB
  obtain ⟨c0, c1, _, _⟩ := cdX HX01.out
  obtain ⟨r0, r1, r2⟩ := cmpCells_at hn6
  have d0 := (cell_in HC1.out (n * 3)).trans r0
  have d1 := (cell_in HC1.out (n * 3 + 1)).trans r1
  have d2 := (cell_in HC1.out (n * 3 + 2)).trans r2
  have l0 : ¬ (m : Int) < 0 := by omega
  have l1 : ¬ (6 : Int) ≤ (m : Int) := by omega
  have l2 : ¬ (n : Int) < 0 := by omega
  have l3 : ¬ (6 : Int) ≤ (n : Int) := by omega
  have f0 := free_in HX11.out 0
  have f1 := free_in HX11.out 1
  have f2 := free_in HX11.out 2
  have e0 := cell_in HX11.out 0
  have e1 := cell_in HX11.out 1
  have e2 := cell_in HX11.out 2
  have hst := run_storeF (fnC_one n)
  clear r0 r1 r2 a0 a5 k0 k5
  go_wp2_with fail
  (try simp only [Exit.inBlock, Exit.then])
  refine bodyPost_ret (v := .tuple #[.agg #[.string (wordT (n : Int)), .int .i64 (notK (n : Int)), fnC (n : Int)], .bool true]) ?_ rfl ⟨rfl, ?_⟩
  · rw [results_cell_tmp rfl]
    go_simp
  · have hB := HB1.out
    go_grown
/-- Where one of a condition's numbers is off. -/
theorem bad_cd {c : Cd} (hr : c.right = false) : c.arg < 0 ∨ (0 ≤ c.arg ∧ 6 ≤ c.arg) ∨ (0 ≤ c.arg ∧ c.arg < 6 ∧ c.cmp < 0) ∨ (0 ≤ c.arg ∧ c.arg < 6 ∧ 0 ≤ c.cmp ∧ 6 ≤ c.cmp) := by
  have : ¬ c.right = true := by rw [hr]; simp
  rw [Cd.right_iff] at this
  omega
theorem compOf_bad (c : Cd) (w : World) (hr : c.right = false) :
    Calls Tryd.prog 26 #[c.val] w fun e w' => e = .returned (.tuple #[noRow, .bool false]) ∧ Below w.heap.size w w' := by
  have hbad := bad_cd hr
  clear hr
  obtain ⟨arg, cmp, mask, value⟩ := c
  simp only at hbad
  obtain ⟨W, hW, X0, X1, HBx⟩ := box2 w (cdB ⟨arg, cmp, mask, value⟩) (.cells #[.string ⟨#[]⟩, .int .i64 0, .nilFunc] 63)
  have HX0 := Lib.hid X0
  have HX1 := Lib.hid X1
  have HB := Lib.hid HBx
  have HBad := Lib.hid hbad
  clear X0 X1 HBx hbad
  go_enter Tryd.func26, Tryd.ntmps26
  go_upto_region 1 with fail
  rw [← hW]
  clear hW
  go_wp2_with fail
  refine (comparisons_any _).mono ?_
  rintro e w1 ⟨rfl, hw1⟩
  have HX01 : Hid (w1.heap[w.heap.size]? = some (cdB ⟨arg, cmp, mask, value⟩)) := Lib.hid (by rw [hw1]; exact ka _ HX0.out)
  have HX11 : Hid (w1.heap[w.heap.size + 1]? = some (.cells #[.string ⟨#[]⟩, .int .i64 0, .nilFunc] 63)) := Lib.hid (by rw [hw1]; exact ka _ HX1.out)
  have HB1 : Hid (Below w.heap.size w w1) := Lib.hid (by rw [hw1]; exact ba _ HB.out)
  clear hw1 HX0 HX1 HB
  obtain ⟨c0, c1, _, _⟩ := cdX HX01.out
  have f0 := free_in HX11.out 0
  have f1 := free_in HX11.out 1
  have f2 := free_in HX11.out 2
  have hst := run_storeF (F := .nilFunc) rfl
  have e0 := cell_in HX11.out 0
  have e1 := cell_in HX11.out 1
  have e2 := cell_in HX11.out 2
  rcases HBad.out with h | ⟨h0, h⟩ | ⟨h0, h1, h⟩ | ⟨h0, h1, h2, h⟩
  · have g : decide (arg < 0) = true := by simpa using h
    clear h
    go_wp2_with fail
    (try simp only [Exit.inBlock, Exit.then])
    refine bodyPost_ret (v := .tuple #[.agg #[.string ⟨#[]⟩, .int .i64 0, .nilFunc], .bool false]) ?_ rfl ⟨rfl, ?_⟩
    · rw [results_cell_tmp rfl]
      go_simp
    · have hB := HB1.out
      go_grown
  · have g0 : decide (arg < 0) = false := by simpa using h0
    have g : decide (6 ≤ arg) = true := by simpa using h
    clear h h0
    go_wp2_with fail
    (try simp only [Exit.inBlock, Exit.then])
    refine bodyPost_ret (v := .tuple #[.agg #[.string ⟨#[]⟩, .int .i64 0, .nilFunc], .bool false]) ?_ rfl ⟨rfl, ?_⟩
    · rw [results_cell_tmp rfl]
      go_simp
    · have hB := HB1.out
      go_grown
  · have g0 : decide (arg < 0) = false := by simpa using h0
    have g1 : decide (6 ≤ arg) = false := by simpa using h1
    have g : decide (cmp < 0) = true := by simpa using h
    clear h h0 h1
    go_wp2_with fail
    (try simp only [Exit.inBlock, Exit.then])
    refine bodyPost_ret (v := .tuple #[.agg #[.string ⟨#[]⟩, .int .i64 0, .nilFunc], .bool false]) ?_ rfl ⟨rfl, ?_⟩
    · rw [results_cell_tmp rfl]
      go_simp
    · have hB := HB1.out
      go_grown
  · have g0 : decide (arg < 0) = false := by simpa using h0
    have g1 : decide (6 ≤ arg) = false := by simpa using h1
    have g2 : decide (cmp < 0) = false := by simpa using h2
    have g : decide (6 ≤ cmp) = true := by simpa using h
    clear h h0 h1 h2
    go_wp2_with fail
    (try simp only [Exit.inBlock, Exit.then])
    refine bodyPost_ret (v := .tuple #[.agg #[.string ⟨#[]⟩, .int .i64 0, .nilFunc], .bool false]) ?_ rfl ⟨rfl, ?_⟩
    · rw [results_cell_tmp rfl]
      go_simp
    · have hB := HB1.out
      go_grown
/-- Both at once. -/
theorem compOf_any (c : Cd) (w : World) :
    Calls Tryd.prog 26 #[c.val] w fun e w' => (∃ T K F, e = .returned (.tuple #[.agg #[.string T, .int .i64 K, F], .bool c.right]) ∧ F.oneCell' = true ∧ (c.right = true → T = wordT c.cmp ∧ K = notK c.cmp ∧ F = fnC c.cmp)) ∧ Below w.heap.size w w' := by
  cases hr : c.right
  · refine (compOf_bad c w hr).mono ?_
    rintro e w' ⟨rfl, h⟩
    exact ⟨⟨_, _, _, rfl, rfl, fun h => by cases h⟩, h⟩
  · refine (compOf_good c w hr).mono ?_
    rintro e w' ⟨rfl, h⟩
    exact ⟨⟨_, _, _, rfl, fnC_one _, fun _ => ⟨rfl, rfl, rfl⟩⟩, h⟩
theorem qright_any (c : Cd) (w : World) (_ht : QTab w) :
    Calls Tryd.prog 44 #[c.val] w fun e w' => e = .returned (.bool c.right) ∧ Below w.heap.size w w' := by
  have HX := Lib.hid (heap_alloc_new w (cdB c))
  have HB := Lib.hid (ba (cdB c) (Below.refl w.heap.size w))
  obtain ⟨W, hW⟩ : ∃ W, W = w.alloc (cdB c) := ⟨_, rfl⟩
  rw [← hW] at HX HB
  obtain ⟨c0, c1, c2, c3⟩ := cdX HX.out
  go_enter Tryd.func44, Tryd.ntmps44
  go_upto_region 1 with fail
  rw [← hW]
  clear hW
  go_wp2_with fail
  refine (compOf_any c _).mono ?_
  rintro e w1 ⟨⟨T, K, F, rfl, hF, _⟩, hb1⟩
  have HB1 := Lib.hid (below2 HB.out hb1)
  have hst := run_storeF hF
  obtain ⟨r, hr⟩ : ∃ r, c.right = r := ⟨_, rfl⟩
  rw [hr]
  have HR := Lib.hid hr
  clear hb1 hr
  go_wp2_with fail
  go_ret
  refine ⟨by rw [HR.out]; rfl, ?_⟩
  have hB := HB1.out
  have hs := hB.size
  go_grown
theorem cmpB0 (a b : Nat) : cmpB 0 a b = ((a : Int) == (b : Int)) := by
  rw [Bool.eq_iff_iff]
  simp [cmpB]
  omega
theorem clo0 (a b : Nat) (w : World) :
    Calls Tryd.prog 45 #[.int .u64 (a : Nat), .int .u64 (b : Nat)] w fun e w' => e = .returned (.bool (cmpB 0 a b)) ∧ w' = w := by
  rw [cmpB0]
  go_enter Tryd.func45, Tryd.ntmps45
  go_wp2_with fail
  go_ret
  exact ⟨rfl, rfl⟩
theorem cmpB1 (a b : Nat) : cmpB 1 a b = ((a : Int) != (b : Int)) := by
  rw [Bool.eq_iff_iff]
  simp [cmpB]
  omega
theorem clo1 (a b : Nat) (w : World) :
    Calls Tryd.prog 46 #[.int .u64 (a : Nat), .int .u64 (b : Nat)] w fun e w' => e = .returned (.bool (cmpB 1 a b)) ∧ w' = w := by
  rw [cmpB1]
  go_enter Tryd.func46, Tryd.ntmps46
  go_wp2_with fail
  go_ret
  exact ⟨rfl, rfl⟩
theorem cmpB2 (a b : Nat) : cmpB 2 a b = decide (a < b) := rfl
theorem clo2 (a b : Nat) (w : World) :
    Calls Tryd.prog 47 #[.int .u64 (a : Nat), .int .u64 (b : Nat)] w fun e w' => e = .returned (.bool (cmpB 2 a b)) ∧ w' = w := by
  rw [cmpB2]
  go_enter Tryd.func47, Tryd.ntmps47
  go_wp2_with fail
  go_ret
  exact ⟨rfl, rfl⟩
theorem cmpB3 (a b : Nat) : cmpB 3 a b = decide (a ≤ b) := rfl
theorem clo3 (a b : Nat) (w : World) :
    Calls Tryd.prog 48 #[.int .u64 (a : Nat), .int .u64 (b : Nat)] w fun e w' => e = .returned (.bool (cmpB 3 a b)) ∧ w' = w := by
  rw [cmpB3]
  go_enter Tryd.func48, Tryd.ntmps48
  go_wp2_with fail
  go_ret
  exact ⟨rfl, rfl⟩
theorem cmpB4 (a b : Nat) : cmpB 4 a b = decide (b < a) := rfl
theorem clo4 (a b : Nat) (w : World) :
    Calls Tryd.prog 49 #[.int .u64 (a : Nat), .int .u64 (b : Nat)] w fun e w' => e = .returned (.bool (cmpB 4 a b)) ∧ w' = w := by
  rw [cmpB4]
  go_enter Tryd.func49, Tryd.ntmps49
  go_wp2_with fail
  go_ret
  exact ⟨rfl, rfl⟩
theorem cmpB5 (a b : Nat) : cmpB 5 a b = decide (b ≤ a) := rfl
theorem clo5 (a b : Nat) (w : World) :
    Calls Tryd.prog 50 #[.int .u64 (a : Nat), .int .u64 (b : Nat)] w fun e w' => e = .returned (.bool (cmpB 5 a b)) ∧ w' = w := by
  rw [cmpB5]
  go_enter Tryd.func50, Tryd.ntmps50
  go_wp2_with fail
  go_ret
  exact ⟨rfl, rfl⟩
set_option maxHeartbeats 4000000 in
theorem qholds_any (c : Cd) (d : Rec) (w : World) (hc : c.ok) (hd : d.ok) (_ht : QTab w) :
    Calls Tryd.prog 18 #[c.val, d.val] w fun e w' => e = .returned (.bool (c.holds d)) ∧ Below w.heap.size w w' := by
  obtain ⟨W, hW, X0, X1, HBx⟩ := box2 w (cdB c) (.cells d.cells 32)
  have HX := Lib.hid X0
  have HD := Lib.hid X1
  have HB := Lib.hid HBx
  clear X0 X1 HBx
  obtain ⟨c0, c1, c2, c3⟩ := cdX HX.out
  go_enter Tryd.func18, Tryd.ntmps18
  go_upto_region 1 with fail
  change Code.wp _ _ _ _ ((w.alloc (cdB c)).alloc (.cells d.cells 32))
  rw [← hW]
  clear hW
  go_wp2_with fail
  refine (compOf_any c _).mono ?_
  rintro e w1 ⟨⟨T, K, F, rfl, hF, hv⟩, hb1⟩
  have HB1 := Lib.hid (below2 HB.out hb1)
  have HX1 := Lib.hid (kb hb1 HX.out)
  have HD1 := Lib.hid (kb hb1 HD.out)
  have hst := run_storeF hF
  clear hb1 c0 c1 c2 c3 HX HD HB
  have hlt : w.heap.size < w1.heap.size := lt_of_block HX1.out
  have hlt2 : w.heap.size + 1 < w1.heap.size := lt_of_block HD1.out
  have HV := Lib.hid hv
  clear hv
  cases hr : c.right
  · have HN : Hid (c.holds d = false) := Lib.hid (holds_bad hr d)
    clear hr
    go_upto_region 2 with fail
    obtain ⟨W2, hW2⟩ : ∃ W2, W2 = w1.alloc (.cells #[.string T, .int .i64 K, F] 63) := ⟨_, rfl⟩
    have HB2 : Hid (Below w.heap.size w W2) := Lib.hid (by rw [hW2]; exact ba _ HB1.out)
    change Code.wp _ _ _ _ (w1.alloc (.cells #[.string T, .int .i64 K, F] 63))
    rw [← hW2]
    clear hW2 hst
    go_quiet (fail)
    go_wp2_with fail
    go_ret
    exact ⟨by rw [HN.out]; rfl, bdN HB2.out _⟩
  · obtain ⟨a0, a5, k0, k5⟩ := (c.right_iff).1 hr
    have HR : Hid (c.holds d = cmpB c.cmp (c.bits d) c.value) := Lib.hid (by unfold Cd.holds; rw [hr]; rfl)
    have HF2 := Lib.hid (HV.out hr).2.2
    obtain ⟨n, hn⟩ : ∃ n : Nat, c.arg = n := ⟨c.arg.toNat, by omega⟩
    have hn6 : n < 6 := by omega
    obtain ⟨A, hA⟩ : ∃ A, A = (argsD d).getD n 0 := ⟨_, rfl⟩
    have hA64 : A < 18446744073709551616 := by rw [hA]; exact args_lt hd n
    have hBT : bits .and .u64 (A : Int) (c.mask : Int) = (c.bits d : Int) := by
      rw [u64_and_nat _ _ hA64 hc.1]
      unfold Cd.bits
      rw [hn, hA]
      rfl
    have x3 := (cell_in HD1.out (3 + n)).trans (args_cell d n hn6)
    rw [← hA] at x3
    have HD0 := HD1.out
    have HX0 := HX1.out
    obtain ⟨arg, cmp, mask, value⟩ := c
    simp only at hn k0 k5 HR HF2 hBT ⊢
    subst hn
    go_upto_region 2 with fail
    obtain ⟨W2, hW2⟩ : ∃ W2, W2 = w1.alloc (.cells #[.string T, .int .i64 K, F] 63) := ⟨_, rfl⟩
    have HB2 : Hid (Below w.heap.size w W2) := Lib.hid (by rw [hW2]; exact ba _ HB1.out)
    have hx2 : W2.heap[w.heap.size]? = some (cdB ⟨n, cmp, mask, value⟩) := by rw [hW2]; exact ka _ HX1.out
    have hd2 : W2.heap[w.heap.size + 1]? = some (.cells d.cells 32) := by rw [hW2]; exact ka _ HD1.out
    have hr2 : W2.heap[w1.heap.size]? = some (.cells #[.string T, .int .i64 K, F] 63) := by rw [hW2]; exact heap_alloc_new w1 _
    obtain ⟨c0, c1, c2, c3⟩ := cdX hx2
    have y0 := cell_regrown c0
    have y2 := cell_regrown c2
    have y3 := cell_regrown c3
    have yA := cell_regrown (((cell_in hd2 (3 + n)).trans (args_cell d n hn6)).trans (by rw [← hA]))
    have y4 := cell_regrown (cell_in hr2 2)
    change Code.wp _ _ _ _ (w1.alloc (.cells #[.string T, .int .i64 K, F] 63))
    rw [← hW2]
    obtain ⟨B, hB⟩ : ∃ B, B = (⟨n, cmp, mask, value⟩ : Cd).bits d := ⟨_, rfl⟩
    rw [← hB] at HR hBT
    have l0 : (0 : Int) ≤ (n : Int) := by omega
    have l1 : (n : Int) < 6 := by omega
    have t1 : (n : Int).toNat = n := by omega
    have HK := Lib.hid (six k0 k5)
    obtain rfl := HF2.out
    clear HF2
    clear hW2 hst hF HV hB hA hA64 HD0 HX0 hx2 hd2 hr2 c0 c1 c2 c3 x3 HX1 HD1 HB1 hr a0 a5 k0 k5
    rcases HK.out with rfl | rfl | rfl | rfl | rfl | rfl
    · have cF : ∀ d' os, Calls Tryd.prog 45 #[.int .u64 (B : Nat), .int .u64 (value : Nat)] (Sort.grow (redrawn W2 d') os) fun e w'' => e = .returned (.bool (cmpB 0 B value)) ∧ ∃ p : Regrown, w'' = Sort.grow (redrawn W2 p.d) p.os := fun d' os => Calls.regrown_of ((clo0 B value _).mono fun e w' h => ⟨h.1, by rw [h.2]; exact Below.refl _ _⟩)
      change ∀ d' os, (Sort.grow (redrawn W2 d') os).cell? ⟨w1.heap.size, 2, none⟩ = some (.func (.func 45) #[] #[]) at y4
      generalize cmpB 0 B value = R at *
      refine wp_region_quiet_below (by kernel_rfl) (by kernel_rfl) ?_
      repeat (quiet_step (with_reducible exact cF _ _))
      refine wpQuiet_nil ?_
      intro _ hw'
      obtain ⟨⟨dq, osq⟩, hw''⟩ := hw'
      subst hw''
      have HBq := Lib.hid (HB2.out.trans ((below_regrown W2 dq osq).mono HB2.out.size))
      clear y0 y2 y3 y4 yA cF
      generalize Sort.grow (redrawn W2 dq) osq = Wq at *
      go_wp2_with fail
      go_ret
      exact ⟨by rw [HR.out]; rfl, HBq.out⟩
    · have cF : ∀ d' os, Calls Tryd.prog 46 #[.int .u64 (B : Nat), .int .u64 (value : Nat)] (Sort.grow (redrawn W2 d') os) fun e w'' => e = .returned (.bool (cmpB 1 B value)) ∧ ∃ p : Regrown, w'' = Sort.grow (redrawn W2 p.d) p.os := fun d' os => Calls.regrown_of ((clo1 B value _).mono fun e w' h => ⟨h.1, by rw [h.2]; exact Below.refl _ _⟩)
      change ∀ d' os, (Sort.grow (redrawn W2 d') os).cell? ⟨w1.heap.size, 2, none⟩ = some (.func (.func 46) #[] #[]) at y4
      generalize cmpB 1 B value = R at *
      refine wp_region_quiet_below (by kernel_rfl) (by kernel_rfl) ?_
      repeat (quiet_step (with_reducible exact cF _ _))
      refine wpQuiet_nil ?_
      intro _ hw'
      obtain ⟨⟨dq, osq⟩, hw''⟩ := hw'
      subst hw''
      have HBq := Lib.hid (HB2.out.trans ((below_regrown W2 dq osq).mono HB2.out.size))
      clear y0 y2 y3 y4 yA cF
      generalize Sort.grow (redrawn W2 dq) osq = Wq at *
      go_wp2_with fail
      go_ret
      exact ⟨by rw [HR.out]; rfl, HBq.out⟩
    · have cF : ∀ d' os, Calls Tryd.prog 47 #[.int .u64 (B : Nat), .int .u64 (value : Nat)] (Sort.grow (redrawn W2 d') os) fun e w'' => e = .returned (.bool (cmpB 2 B value)) ∧ ∃ p : Regrown, w'' = Sort.grow (redrawn W2 p.d) p.os := fun d' os => Calls.regrown_of ((clo2 B value _).mono fun e w' h => ⟨h.1, by rw [h.2]; exact Below.refl _ _⟩)
      change ∀ d' os, (Sort.grow (redrawn W2 d') os).cell? ⟨w1.heap.size, 2, none⟩ = some (.func (.func 47) #[] #[]) at y4
      generalize cmpB 2 B value = R at *
      refine wp_region_quiet_below (by kernel_rfl) (by kernel_rfl) ?_
      repeat (quiet_step (with_reducible exact cF _ _))
      refine wpQuiet_nil ?_
      intro _ hw'
      obtain ⟨⟨dq, osq⟩, hw''⟩ := hw'
      subst hw''
      have HBq := Lib.hid (HB2.out.trans ((below_regrown W2 dq osq).mono HB2.out.size))
      clear y0 y2 y3 y4 yA cF
      generalize Sort.grow (redrawn W2 dq) osq = Wq at *
      go_wp2_with fail
      go_ret
      exact ⟨by rw [HR.out]; rfl, HBq.out⟩
    · have cF : ∀ d' os, Calls Tryd.prog 48 #[.int .u64 (B : Nat), .int .u64 (value : Nat)] (Sort.grow (redrawn W2 d') os) fun e w'' => e = .returned (.bool (cmpB 3 B value)) ∧ ∃ p : Regrown, w'' = Sort.grow (redrawn W2 p.d) p.os := fun d' os => Calls.regrown_of ((clo3 B value _).mono fun e w' h => ⟨h.1, by rw [h.2]; exact Below.refl _ _⟩)
      change ∀ d' os, (Sort.grow (redrawn W2 d') os).cell? ⟨w1.heap.size, 2, none⟩ = some (.func (.func 48) #[] #[]) at y4
      generalize cmpB 3 B value = R at *
      refine wp_region_quiet_below (by kernel_rfl) (by kernel_rfl) ?_
      repeat (quiet_step (with_reducible exact cF _ _))
      refine wpQuiet_nil ?_
      intro _ hw'
      obtain ⟨⟨dq, osq⟩, hw''⟩ := hw'
      subst hw''
      have HBq := Lib.hid (HB2.out.trans ((below_regrown W2 dq osq).mono HB2.out.size))
      clear y0 y2 y3 y4 yA cF
      generalize Sort.grow (redrawn W2 dq) osq = Wq at *
      go_wp2_with fail
      go_ret
      exact ⟨by rw [HR.out]; rfl, HBq.out⟩
    · have cF : ∀ d' os, Calls Tryd.prog 49 #[.int .u64 (B : Nat), .int .u64 (value : Nat)] (Sort.grow (redrawn W2 d') os) fun e w'' => e = .returned (.bool (cmpB 4 B value)) ∧ ∃ p : Regrown, w'' = Sort.grow (redrawn W2 p.d) p.os := fun d' os => Calls.regrown_of ((clo4 B value _).mono fun e w' h => ⟨h.1, by rw [h.2]; exact Below.refl _ _⟩)
      change ∀ d' os, (Sort.grow (redrawn W2 d') os).cell? ⟨w1.heap.size, 2, none⟩ = some (.func (.func 49) #[] #[]) at y4
      generalize cmpB 4 B value = R at *
      refine wp_region_quiet_below (by kernel_rfl) (by kernel_rfl) ?_
      repeat (quiet_step (with_reducible exact cF _ _))
      refine wpQuiet_nil ?_
      intro _ hw'
      obtain ⟨⟨dq, osq⟩, hw''⟩ := hw'
      subst hw''
      have HBq := Lib.hid (HB2.out.trans ((below_regrown W2 dq osq).mono HB2.out.size))
      clear y0 y2 y3 y4 yA cF
      generalize Sort.grow (redrawn W2 dq) osq = Wq at *
      go_wp2_with fail
      go_ret
      exact ⟨by rw [HR.out]; rfl, HBq.out⟩
    · have cF : ∀ d' os, Calls Tryd.prog 50 #[.int .u64 (B : Nat), .int .u64 (value : Nat)] (Sort.grow (redrawn W2 d') os) fun e w'' => e = .returned (.bool (cmpB 5 B value)) ∧ ∃ p : Regrown, w'' = Sort.grow (redrawn W2 p.d) p.os := fun d' os => Calls.regrown_of ((clo5 B value _).mono fun e w' h => ⟨h.1, by rw [h.2]; exact Below.refl _ _⟩)
      change ∀ d' os, (Sort.grow (redrawn W2 d') os).cell? ⟨w1.heap.size, 2, none⟩ = some (.func (.func 50) #[] #[]) at y4
      generalize cmpB 5 B value = R at *
      refine wp_region_quiet_below (by kernel_rfl) (by kernel_rfl) ?_
      repeat (quiet_step (with_reducible exact cF _ _))
      refine wpQuiet_nil ?_
      intro _ hw'
      obtain ⟨⟨dq, osq⟩, hw''⟩ := hw'
      subst hw''
      have HBq := Lib.hid (HB2.out.trans ((below_regrown W2 dq osq).mono HB2.out.size))
      clear y0 y2 y3 y4 yA cF
      generalize Sort.grow (redrawn W2 dq) osq = Wq at *
      go_wp2_with fail
      go_ret
      exact ⟨by rw [HR.out]; rfl, HBq.out⟩

end Go.Proofs.YtbhondjfilohdaaDoor
/-
  What strings.SplitN answers at a mark of one byte.
-/
namespace Go.Proofs.YtbhondjfilohdaaDoor
open Go.ChangeShapes Go.WideShapes Go.ChangeAt Go.RowKit
set_option maxRecDepth 100000

/-- A text of these bytes. -/
abbrev bsT (l : List UInt8) : ByteArray := ⟨l.toArray⟩
/-- The pieces of a text between marks, of so many marks at most. -/
def cutsL (c : UInt8) : Nat → List UInt8 → List (List UInt8)
  | 0, l => [l]
  | k + 1, l => if Lib.indexByte l c = -1 then [l] else l.take (Lib.indexByte l c).toNat :: cutsL c k (l.drop ((Lib.indexByte l c).toNat + 1))
theorem cutsL_miss {c : UInt8} {l : List UInt8} (k : Nat) (h : Lib.indexByte l c = -1) : cutsL c k l = [l] := by
  cases k with
  | zero => rfl
  | succ k => unfold cutsL; rw [if_pos h]
theorem cutsL_hit {c : UInt8} {l : List UInt8} {o : Nat} (k : Nat) (h : Lib.indexByte l c = o) : cutsL c (k + 1) l = l.take o :: cutsL c k (l.drop (o + 1)) := by
  have e : (Lib.indexByte l c).toNat = o := by omega
  rw [cutsL, if_neg (by omega), e]
theorem cutsL_len (c : UInt8) : ∀ (k : Nat) (l : List UInt8), 1 ≤ (cutsL c k l).length ∧ (cutsL c k l).length ≤ k + 1
  | 0, _ => ⟨Nat.le_refl _, Nat.le_refl _⟩
  | k + 1, l => by
    unfold cutsL
    split
    · simp
    · have := cutsL_len c k (l.drop ((Lib.indexByte l c).toNat + 1))
      simp only [List.length_cons]
      omega
/-- The cells of the pieces. -/
def cutCells (ps : List (List UInt8)) (N : Nat) : Array Value := Lib.cellsOf (ps.map bsT) N

theorem strIndex_any (s : ByteArray) (c : UInt8) (w : World) :
    Calls Tryd.prog 87 #[.string s, .string ⟨#[c]⟩] w fun e w' => e = .returned (.int .i64 (Lib.indexByte s.data.toList c)) ∧ w = w' := by
  go_enter Tryd.func87, Tryd.ntmps87
  go_wp2_with fail
  refine (sIndex_any s c w).mono ?_
  rintro e w' ⟨rfl, rfl⟩
  go_wp2_with fail
  go_ret
  exact ⟨rfl, rfl⟩
theorem info9 : (Tryd.prog.info? 9).map (fun i => (i.zero, i.size, i.bytes)) = some (some (.string ByteArray.empty), 1, 16) := by kernel_rfl

set_option maxHeartbeats 4000000 in
theorem genSplit_any (s : List UInt8) (c : UInt8) (n N : Nat) (w : World) (hs : s.length ≤ 4611686018427387904) (hn : 1 ≤ n) (hN : N = min n (s.length + 1)) (hn2 : n ≤ 1048576) :
    Calls Tryd.prog 80 #[.string (bsT s), .string ⟨#[c]⟩, .int .i64 0, .int .i64 n] w fun e w' =>
      e = .returned (.slice (some ⟨w.heap.size, 0, none⟩) (cutsL c (N - 1) s).length N) ∧ w' = w.alloc (.cells (cutCells (cutsL c (N - 1) s) N) 9) := by
  have hne : ((n : Int) == 0) = false := beq_eq_false_iff_ne.2 (by omega)
  have hneg : ¬ (n : Int) < 0 := by omega
  have hsz : (bsT s).size = s.length := by simp [ByteArray.size]
  have hmin : min (n : Int) ((s.length : Int) + 1) = (N : Int) := by rw [hN]; omega
  have hNs : (N : Int) ≤ (s.length : Int) + 1 := by omega
  have hN1 : (1 : Int) ≤ (N : Int) := by omega
  have hN2 : (N : Int) ≤ 1048576 := by omega
  have hmk := run_make_row' (P := Tryd.prog) 91 9 (.string ByteArray.empty) 16 Tryd.underlying91 info9 rfl .i64 .i64 N (by omega) (by omega)
  obtain ⟨S, hS⟩ : ∃ S, S = bsT s := ⟨_, rfl⟩
  rw [← hS] at hsz
  rw [← hS]
  have HS0 := Lib.hid hS
  clear hS hN
  go_enter Tryd.func80, Tryd.ntmps80
  go_wp2_with fail
  clear hmk
  go_loopw [0, 10] (fun s0 s10 wr => ∃ (done : List (List UInt8)) (rest : List UInt8), s0 = .string (bsT rest) ∧ s10 = .int .i64 (done.length : Nat) ∧ done.length ≤ N - 1 ∧ rest.length ≤ s.length ∧
      wr = w.alloc (.cells (cutCells done N) 9) ∧ Hid (done ++ cutsL c (N - 1 - done.length) rest = cutsL c (N - 1) s)) (fun _ i _ => N - 1 - (Lib.intOf i).toNat)
  case atStart => exact ⟨[], s, by rw [HS0.out], rfl, Nat.zero_le _, Nat.le_refl _, by unfold cutCells; rw [List.map_nil, Lib.cellsOf_nil], Lib.hid rfl⟩
  case round =>
    obtain ⟨done, rest, rfl, rfl, hd, hrs, rfl, HC⟩ := hrel
    have hnext : (cutCells done N)[done.length]? = some (.string ByteArray.empty) := by
      have := Lib.cellsOf_next (done := done.map bsT) (N := N) (by rw [List.length_map]; omega)
      rwa [List.length_map] at this
    have hput : (cutCells done N).setIfInBounds done.length (.string (bsT rest)) = cutCells (done ++ [rest]) N := by
      have := Lib.cellsOf_set (done := done.map bsT) (N := N) (by rw [List.length_map]; omega) (bsT rest)
      rw [List.length_map] at this
      unfold cutCells
      rw [this, List.map_append]
      rfl
    have hput2 : ∀ o, (cutCells done N).setIfInBounds done.length (.string (bsT (rest.take o))) = cutCells (done ++ [rest.take o]) N := by
      intro o
      have := Lib.cellsOf_set (done := done.map bsT) (N := N) (by rw [List.length_map]; omega) (bsT (rest.take o))
      rw [List.length_map] at this
      unfold cutCells
      rw [this, List.map_append]
      rfl
    have hcs : (cutCells done N).size = N := Lib.cellsOf_size (by rw [List.length_map]; omega)
    have hfin : Hid (cutsL c (N - 1 - done.length) rest = [rest] → (cutsL c (N - 1) s).length = done.length + 1 ∧ cutCells (done ++ [rest]) N = cutCells (cutsL c (N - 1) s) N) := Lib.hid (fun h => by
      have e := HC.out
      rw [h] at e
      rw [← e]
      exact ⟨by simp, rfl⟩)
    have hrz : (bsT rest).size = rest.length := by simp [ByteArray.size]
    have hxo : Hid (∀ o, (bsT rest).extract 0 o = bsT (rest.take o)) := Lib.hid (fun o => take_str _ _)
    have hxr : Hid (∀ o, (bsT rest).extract o (bsT rest).size = bsT (rest.drop o)) := Lib.hid (fun o => drop_str _ _)
    obtain ⟨R, hR⟩ : ∃ R, R = bsT rest := ⟨_, rfl⟩
    rw [← hR] at hrz hput hxo hxr
    rw [← hR]
    have hRl : R.data.toList = rest := by rw [hR]
    have HRl := Lib.hid hRl
    have HR := Lib.hid hR
    clear hR hRl
    by_cases hlt : done.length < N - 1
    · have hltz : ((done.length : Nat) : Int) < (N : Int) - 1 := by omega
      rcases index_cases rest c with ⟨hix, hno⟩ | ⟨o, ho, hix, hsp, hno⟩
      · have HI := Lib.hid hix
        clear hix
        go_wp2_with fail
        refine (strIndex_any _ c _).mono ?_
        rintro e w' ⟨rfl, rfl⟩
        rw [HRl.out, HI.out]
        go_wp2_with fail
        go_ret
        obtain ⟨f1, f2⟩ := hfin.out (cutsL_miss _ HI.out)
        rw [f1, ← f2]
        exact ⟨by first | rfl | (congr 2 <;> omega), rfl⟩
      · have HI := Lib.hid hix
        clear hix hsp hno
        have cb : R.size ≤ 4611686018427387904 := by omega
        have c0 : ¬ ((o : Int) < 0) := by omega
        have c1 : (0 : Int) ≤ ↑o := by omega
        have c2 : (o : Int) ≤ ↑R.size := by omega
        have c3 : (0 : Int) ≤ ↑o + 1 := by omega
        have c4 : (o + 1 : Int) ≤ ↑R.size := by omega
        go_wp2_with fail
        refine (strIndex_any _ c _).mono ?_
        rintro e w' ⟨rfl, rfl⟩
        rw [HRl.out, HI.out]
        go_wp2_with fail
        go_roundw
        case measure =>
          simp only [Lib.intOf]
          omega
        case rel =>
          refine ⟨done ++ [rest.take o], rest.drop (o + 1), by rw [← hrz, hxr.out], by simp, by rw [List.length_append]; simp only [List.length_singleton]; omega, by rw [List.length_drop]; omega, by rw [hxo.out, hput2], ?_⟩
          refine Lib.hid ?_
          rw [← HC.out, show N - 1 - done.length = (N - 1 - (done.length + 1)) + 1 by omega, cutsL_hit _ HI.out]
          simp
    · have hltz : ¬ (((done.length : Nat) : Int) < (N : Int) - 1) := by omega
      go_wp2_with fail
      go_ret
      obtain ⟨f1, f2⟩ := hfin.out (by rw [show N - 1 - done.length = 0 by omega]; rfl)
      rw [f1, ← f2]
      exact ⟨by first | rfl | (congr 2 <;> omega), rfl⟩

theorem splitN_any (s : List UInt8) (c : UInt8) (n N : Nat) (w : World) (hs : s.length ≤ 4611686018427387904) (hn : 1 ≤ n) (hN : N = min n (s.length + 1)) (hn2 : n ≤ 1048576) :
    Calls Tryd.prog 73 #[.string (bsT s), .string ⟨#[c]⟩, .int .i64 n] w fun e w' =>
      e = .returned (.slice (some ⟨w.heap.size, 0, none⟩) (cutsL c (N - 1) s).length N) ∧ w' = w.alloc (.cells (cutCells (cutsL c (N - 1) s) N) 9) := by
  have c1 := genSplit_any s c n N w hs hn hN hn2
  clear hs hN
  generalize cutsL c (N - 1) s = ps at *
  generalize bsT s = S at *
  go_enter Tryd.func73, Tryd.ntmps73
  go_wp2_with fail
  refine c1.mono ?_
  rintro e w' ⟨rfl, rfl⟩
  go_wp2_with fail
  go_ret
  exact ⟨rfl, rfl⟩
end Go.Proofs.YtbhondjfilohdaaDoor
/-
  What strings.Join answers, where the whole takes at most 2^47 bytes.
-/
namespace Go.Proofs.YtbhondjfilohdaaDoor
open Go.ChangeShapes Go.WideShapes Go.ChangeAt Go.RowKit
set_option maxRecDepth 100000

set_option maxHeartbeats 4000000 in
/-- A builder without a buffer grows. -/
theorem sbGrow0 (B b n : Nat) (w : World) (hB : B ≤ b) (hbk : w.heap[b]? = some (.cells #[.pointer (some ⟨b, 0, none⟩), .slice none 0 0] 108 (0, 0))) (hBw : B ≤ w.heap.size) (hn : n ≤ 281474976710656) :
    Calls Tryd.prog 78 #[.pointer (some ⟨b, 0, none⟩), .int .i64 n] w fun e w' => e = .returned (.tuple #[]) ∧ SB B b [] w' ∧ Below B w w' := by
  obtain ⟨cs, hrun, hle, hmax⟩ := Lib.run_makeNoZero (P := Tryd.prog) w.drew #[3] 75 5 Tryd.underlying75 n hn
  have hw : IntKind.i64.wrap (IntKind.i64.wrap 0 + (n : Int)) = n := by
    rw [IntKind.wrap_i64, IntKind.wrap_i64]
    omega
  have hcall : (callFunc 84 #[.int .i64 (IntKind.i64.wrap (IntKind.i64.wrap 0 + (n : Int)))]).run Tryd.prog w.drew = .ok (.value (.slice (some ⟨w.drew.heap.size, 0, none⟩) n cs.size)) (w.drew.drew.drew.alloc (.cells cs 5)) := by
    rw [hw, run_callFunc_extern Tryd.func84 (by kernel_rfl) (by kernel_rfl) (by kernel_rfl) (e := Extern.BytealgMakeNoZero.makeNoZero #[3] #[75]) (by kernel_rfl), hrun]
    rfl
  have hlt : b < w.heap.size := lt_of_block hbk
  have c1 : w.drew.cell? ⟨b, 1, none⟩ = some (.slice none 0 0) := by
    have : w.drew.heap[b]? = _ := hbk
    rw [Lib.cell_of_heap this]; rfl
  have c2 : (w.alloc (.cells cs 5)).cell? ⟨b, 1, none⟩ = some (.slice none 0 0) := by
    have : (w.alloc (.cells cs 5)).heap[b]? = _ := (Lib.alloc_old w _ b hlt).trans hbk
    rw [Lib.cell_of_heap this]; rfl
  have f2 : (w.alloc (.cells cs 5)).frozen? ⟨b, 1, none⟩ = false := Lib.frozen_of_heap ((Lib.alloc_old w _ b hlt).trans hbk) 1
  have hcopy : ∀ W : World, (Builtin.copy_ #[75, 75] 3 #[.slice (some ⟨w.heap.size, 0, none⟩) 0 cs.size, .slice none 0 0]).run Tryd.prog W = .ok (goInt 0) W :=
    fun W => run_copy_none W 75 75 3 5 _ _ 0 cs.size 0 0 Tryd.underlying75 (by kernel_rfl) rfl
  clear hw
  have hfin := Lib.grown_fresh (T := 108) (e := 5) (cs := cs) hB hbk hBw (hmax (by unfold maxLen; omega)) (by decide)
  rw [World.setCell_alloc_past _ _ _ _ hlt] at hfin
  have HF := Lib.hid hfin
  clear hfin hrun hmax hbk
  go_enter Tryd.func78, Tryd.ntmps78
  go_wp2_with fail
  go_region
  all_goals (go_wp2_with fail; go_end0; exact ⟨rfl, .inr HF.out.1, HF.out.2⟩)

/-- Grow at a builder that has not been written. -/
theorem sbGrow (b n : Nat) (w : World) (hbk : w.heap[b]? = some (.cells #[.pointer none, .slice none 0 0] 108 (0, 0))) (hn : n ≤ 281474976710656) (hn0 : 0 < n) :
    Calls Tryd.prog 68 #[.pointer (some ⟨b, 0, none⟩), .int .i64 n] w fun e w' => e = .returned (.tuple #[]) ∧ SB b b [] w' ∧ Below b w w' := by
  have hlt : b < w.heap.size := lt_of_block hbk
  have hbk1 : (w.setCell ⟨b, 0, none⟩ (.pointer (some ⟨b, 0, none⟩))).heap[b]? = some (.cells #[.pointer (some ⟨b, 0, none⟩), .slice none 0 0] 108 (0, 0)) := by
    simp [World.setCell, Array.getElem?_modify, hbk]
  have hb1 : Below b w (w.setCell ⟨b, 0, none⟩ (.pointer (some ⟨b, 0, none⟩))) := (Below.refl b w).setCell (p := ⟨b, 0, none⟩) (Nat.le_refl _) _
  have k0 : w.cell? ⟨b, 0, none⟩ = some (.pointer none) := by rw [Lib.cell_of_heap hbk]; rfl
  have k1 : w.shape? b = some (108, 2) := by simp [World.shape?, hbk]
  have k2 : w.frozen? ⟨b, 0, none⟩ = false := Lib.frozen_of_heap hbk 0
  have HB := Lib.hid hb1
  have HK := Lib.hid hbk1
  clear hb1 hbk1 hbk
  go_enter Tryd.func68, Tryd.ntmps68
  go_wp2_with fail
  refine (sbFresh b w k0 k1 k2).mono ?_
  rintro e w' ⟨rfl, hw'⟩
  rw [← hw'] at HB HK
  have hs' : w.heap.size ≤ w'.heap.size := HB.out.size
  clear k0 k1 k2 hw'
  have c1 : w'.cell? ⟨b, 1, none⟩ = some (.slice none 0 0) := by rw [Lib.cell_of_heap HK.out]; rfl
  go_wp2_with fail
  go_quiet (fail)
  go_wp2_with fail
  refine (sbGrow0 b b n _ (Nat.le_refl _) (show (World.drewN w' _).heap[b]? = _ from HK.out) (by show b ≤ w'.heap.size; omega) hn).mono ?_
  rintro e w2 ⟨rfl, h1, h2⟩
  have H1 := Lib.hid h1
  have H2 := Lib.hid ((bdN HB.out _).trans h2)
  clear h1 h2
  go_wp2_with fail
  go_end0
  exact ⟨rfl, H1.out, H2.out⟩

set_option maxHeartbeats 4000000 in
/-- strings.Join of two and more texts, at a mark of one byte. -/
theorem strJoin_any (bk o c : Nat) (xs : List (List UInt8)) (m : UInt8) (w : World) (hcells : ∀ j x, xs[j]? = some x → w.cell? ⟨bk, o + j, none⟩ = some (.string ⟨x.toArray⟩)) (hbk : bk < w.heap.size) (h2 : 2 ≤ xs.length) (hN : xs.length ≤ 140737488355328) (hcap : xs.length ≤ c)
    (hlen : (Lib.join xs [m]).length ≤ 140737488355328) :
    Calls Tryd.prog 55 #[.slice (some ⟨bk, o, none⟩) xs.length c, .string ⟨#[m]⟩] w fun e w' => e = .returned (.string ⟨(Lib.join xs [m]).toArray⟩) ∧ Below w.heap.size w w' := by
  have HC := Lib.hid hcells
  obtain ⟨x0, r, hxs⟩ : ∃ x0 r, xs = x0 :: r := by
    cases xs with
    | nil => simp at h2
    | cons a t => exact ⟨a, t, rfl⟩
  have hrl : r.length = xs.length - 1 := by rw [hxs]; simp
  have hJe : (Lib.join xs [m]).length = (xs.length - 1) + Lib.lens xs := by
    have := Lib.join_length x0 r [m]
    rw [hxs]
    rw [this]
    simp
  have hsum : (xs.length - 1) + Lib.lens xs ≤ 140737488355328 := by omega
  have hdv : ¬ (9223372036854775807 / ((xs.length : Int) - 1) ≤ 1) := by
    have : (2 : Int) ≤ 9223372036854775807 / ((xs.length : Int) - 1) := by
      rw [Int.le_ediv_iff_mul_le (by omega)]
      omega
    omega
  have hne0 : ((xs.length : Int) == 0) = false := beq_eq_false_iff_ne.2 (by omega)
  have hne1 : ((xs.length : Int) == 1) = false := beq_eq_false_iff_ne.2 (by omega)
  have Hxs := Lib.hid hxs
  have HJe := Lib.hid hJe
  have Hrl := Lib.hid hrl
  clear hxs hlen hJe hcells hrl
  go_enter Tryd.func55, Tryd.ntmps55
  go_wp2_with fail
  go_loop [5, 41] (fun n i => ∃ k : Nat, k ≤ xs.length ∧ i = .int .i64 k ∧ n = .int .i64 ((xs.length - 1 + Lib.lens (xs.take k) : Nat) : Int)) (fun _ i => xs.length - (Lib.intOf i).toNat)
  case atStart => exact ⟨0, Nat.zero_le _, rfl, by simp [Lib.lens]; omega⟩
  case round =>
    obtain ⟨k, hk, rfl, rfl⟩ := hrel
    by_cases hkn : k < xs.length
    · have hx : xs[k]? = some xs[k] := List.getElem?_eq_getElem hkn
      have hc := HC.out k _ hx
      have hstep := Lib.lens_take_succ xs k _ hx
      have hbound := Lib.lens_take_le xs (k + 1)
      have hxz : (⟨(xs[k]).toArray⟩ : ByteArray).size = xs[k].length := by simp [ByteArray.size]
      generalize (⟨(xs[k]).toArray⟩ : ByteArray) = X at hc hxz
      generalize xs[k].length = L at hstep hxz
      generalize hA1 : Lib.lens (xs.take (k + 1)) = A1 at hstep hbound
      generalize Lib.lens (xs.take k) = A0 at hstep
      have HA1 := Lib.hid hA1
      clear hA1 hx
      go_wp2_with fail
      exact ⟨⟨k + 1, by omega, by go_num, by rw [HA1.out]; refine congrArg _ ?_; omega⟩, by simp [Lib.intOf]; omega⟩
    · have hke : k = xs.length := by omega
      subst hke
      rw [List.take_of_length_le (Nat.le_refl _)]
      generalize hT : Lib.lens xs = T at hsum
      have HT := Lib.hid hT
      clear hT
      go_wp2_with fail
      have e1 : ((xs.length - 1 : Nat) : Int) + (T : Int) = ((xs.length - 1 + T : Nat) : Int) := by omega
      rw [e1]
      clear e1
      refine (sbGrow w.heap.size (xs.length - 1 + T) _ (heap_alloc_new w _) (by omega) (by omega)).mono ?_
      rintro e w1 ⟨rfl, h1, hb1⟩
      have H1 := Lib.hid h1
      have HB1 := Lib.hid (((Below.refl w.heap.size w).alloc (Nat.le_refl _) _).trans hb1)
      have hs1 : w.heap.size ≤ w1.heap.size := HB1.out.size
      have hc0 : w1.cell? ⟨bk, o, none⟩ = some (.string ⟨x0.toArray⟩) := by
        rw [HB1.out.cell (p := ⟨bk, o, none⟩) hbk]
        exact HC.out 0 x0 (by rw [Hxs.out]; rfl)
      have HW : Hid (Lib.join xs [m] = x0 ++ Lib.joinTail [m] r) := Lib.hid (by rw [Hxs.out, Lib.join_cons])
      have HLe : Hid (∀ k, (x0 ++ Lib.joinTail [m] (r.take k)).length ≤ 140737488355328) := Lib.hid (fun k => by
        have g1 := HJe.out
        rw [HW.out, HT.out, List.length_append] at g1
        have g2 := Lib.joinTail_take_le [m] r k
        rw [List.length_append]
        omega)
      clear h1 hb1
      go_wp2_with fail
      refine (sbWrite w.heap.size w.heap.size [] ⟨x0.toArray⟩ w1 H1.out (by have := HLe.out 0; simp [Lib.joinTail] at this; simpa [ByteArray.size] using this) hs1).mono ?_
      rintro e w2 ⟨rfl, h2', hb2⟩
      have H2 : Hid (SB w.heap.size w.heap.size (x0 ++ Lib.joinTail [m] (r.take 0)) w2) := Lib.hid (by simpa [Lib.joinTail] using h2')
      have HB2 := Lib.hid (HB1.out.trans hb2)
      have hrl2 : r.length = xs.length - 1 := Hrl.out
      clear h2' hb2 hc0 hs1
      go_wp2_with fail
      go_loopw [65] (fun i wr => ∃ k : Nat, k ≤ r.length ∧ i = .int .i64 k ∧ Hid (SB w.heap.size w.heap.size (x0 ++ Lib.joinTail [m] (r.take k)) wr) ∧ Hid (Below w.heap.size w wr)) (fun i _ => r.length - (Lib.intOf i).toNat)
      case atStart => exact ⟨0, Nat.zero_le _, rfl, H2, HB2⟩
      case round =>
        obtain ⟨k, hk', rfl, HB, HW'⟩ := hrel
        have hBw : w.heap.size ≤ wr.heap.size := HW'.out.size
        by_cases hkr : k < r.length
        · have hy : r[k]? = some r[k] := List.getElem?_eq_getElem hkr
          obtain ⟨y, hyy⟩ : ∃ y, y = r[k] := ⟨_, rfl⟩
          rw [← hyy] at hy
          have hcy : wr.cell? ⟨bk, o + 1 + k, none⟩ = some (.string ⟨y.toArray⟩) := by
            rw [HW'.out.cell (p := ⟨bk, o + 1 + k, none⟩) hbk, show o + 1 + k = o + (k + 1) by omega]
            exact HC.out (k + 1) y (by rw [Hxs.out]; simpa using hy)
          have HN : Hid (x0 ++ Lib.joinTail [m] (r.take k) ++ [m] ++ y = x0 ++ Lib.joinTail [m] (r.take (k + 1))) := Lib.hid (by
            rw [Lib.joinTail_take_succ [m] r k y hy]
            simp [List.append_assoc])
          have HL : Hid ((x0 ++ Lib.joinTail [m] (r.take k)).length + 1 + y.length ≤ 140737488355328) := Lib.hid (by
            have g := HLe.out (k + 1)
            rw [← HN.out] at g
            simp only [List.length_append, List.length_singleton] at g ⊢
            omega)
          clear hy hyy
          go_wp2_with fail
          refine (sbWrite w.heap.size w.heap.size _ ⟨#[m]⟩ wr HB.out (by have := HL.out; show _ + 1 ≤ _; omega) hBw).mono ?_
          rintro e w3 ⟨rfl, h3, hb3⟩
          have H3 := Lib.hid h3
          have HB3 := Lib.hid (HW'.out.trans hb3)
          have hs3 : w.heap.size ≤ w3.heap.size := HB3.out.size
          clear h3 hb3 hcy
          go_wp2_with fail
          refine (sbWrite w.heap.size w.heap.size _ ⟨y.toArray⟩ w3 H3.out (by have := HL.out; simp only [List.length_append] at this ⊢; show _ + _ + 1 + y.length ≤ _; omega) hs3).mono ?_
          rintro e w4 ⟨rfl, h4, hb4⟩
          have H4 : Hid (SB w.heap.size w.heap.size (x0 ++ Lib.joinTail [m] (r.take (k + 1))) w4) := Lib.hid (by rw [← HN.out]; exact h4)
          have HB4 := Lib.hid (HB3.out.trans hb4)
          clear h4 hb4
          go_wp2_with fail
          exact ⟨⟨k + 1, by omega, by go_num, H4, HB4⟩, by simp [Lib.intOf]; omega⟩
        · have hke : k = r.length := by omega
          subst hke
          have hfull : r.take r.length = r := List.take_of_length_le (Nat.le_refl _)
          have HB' := Lib.hid HB.out
          rw [hfull, ← HW.out] at HB'
          clear hfull
          go_wp2_with fail
          refine (sbString w.heap.size w.heap.size _ wr HB'.out hBw).mono ?_
          rintro e w5 ⟨rfl, hb5⟩
          have HB5 := Lib.hid (HW'.out.trans hb5)
          clear hb5
          go_wp2_with fail
          go_ret
          exact ⟨rfl, HB5.out⟩
end Go.Proofs.YtbhondjfilohdaaDoor
/-
  Package cond: what Print answers.
-/
namespace Go.Proofs.YtbhondjfilohdaaDoor
open Go.ChangeShapes Go.WideShapes Go.ChangeAt Go.RowKit
set_option maxRecDepth 100000

/-- An argument's text. -/
def argT (n : Nat) : ByteArray := ⟨(argW n).toArray⟩
theorem conv2 (w : World) (x y : UInt8) : (convert 75 9 (.slice (some ⟨w.heap.size, 0, none⟩) 2 2)).run Tryd.prog (w.alloc (.cells #[.int .u8 (x.toNat : Int), .int .u8 (y.toNat : Int)] 5)) = .ok (.string ⟨#[x, y]⟩) (w.alloc (.cells #[.int .u8 (x.toNat : Int), .int .u8 (y.toNat : Int)] 5)) := by
  refine run_convert_bytes_back _ _ _ 5 ⟨w.heap.size, 0, none⟩ 2 [x, y] Tryd.underlying75 Tryd.underlying5 Tryd.underlying9 (fun j hj => ?_)
  have hj2 : j < 2 := hj
  have h := new_at w #[.int .u8 (x.toNat : Int), .int .u8 (y.toNat : Int)] 5 j
  rcases j with _ | _ | j
  · exact h _ rfl
  · exact h _ rfl
  · omega
theorem argument_any (n : Nat) (w : World) (h : n < 6) : Calls Tryd.prog 81 #[.int .i64 n] w fun e w' => e = .returned (.string (argT n)) ∧ Below w.heap.size w w' := by
  have h6 : n = 0 ∨ n = 1 ∨ n = 2 ∨ n = 3 ∨ n = 4 ∨ n = 5 := by omega
  clear h
  rcases h6 with rfl | rfl | rfl | rfl | rfl | rfl
  · have hcv := conv2 w 97 48
    change (convert 75 9 (.slice (some ⟨w.heap.size, 0, none⟩) 2 2)).run Tryd.prog (w.alloc (.cells #[.int .u8 97, .int .u8 48] 5)) = .ok (.string ⟨#[97, 48]⟩) (w.alloc (.cells #[.int .u8 97, .int .u8 48] 5)) at hcv
    go_enter Tryd.func81, Tryd.ntmps81
    go_wp2_with fail
    go_ret
    exact ⟨rfl, ba _ (Below.refl _ _)⟩
  · have hcv := conv2 w 97 49
    change (convert 75 9 (.slice (some ⟨w.heap.size, 0, none⟩) 2 2)).run Tryd.prog (w.alloc (.cells #[.int .u8 97, .int .u8 49] 5)) = .ok (.string ⟨#[97, 49]⟩) (w.alloc (.cells #[.int .u8 97, .int .u8 49] 5)) at hcv
    go_enter Tryd.func81, Tryd.ntmps81
    go_wp2_with fail
    go_ret
    exact ⟨rfl, ba _ (Below.refl _ _)⟩
  · have hcv := conv2 w 97 50
    change (convert 75 9 (.slice (some ⟨w.heap.size, 0, none⟩) 2 2)).run Tryd.prog (w.alloc (.cells #[.int .u8 97, .int .u8 50] 5)) = .ok (.string ⟨#[97, 50]⟩) (w.alloc (.cells #[.int .u8 97, .int .u8 50] 5)) at hcv
    go_enter Tryd.func81, Tryd.ntmps81
    go_wp2_with fail
    go_ret
    exact ⟨rfl, ba _ (Below.refl _ _)⟩
  · have hcv := conv2 w 97 51
    change (convert 75 9 (.slice (some ⟨w.heap.size, 0, none⟩) 2 2)).run Tryd.prog (w.alloc (.cells #[.int .u8 97, .int .u8 51] 5)) = .ok (.string ⟨#[97, 51]⟩) (w.alloc (.cells #[.int .u8 97, .int .u8 51] 5)) at hcv
    go_enter Tryd.func81, Tryd.ntmps81
    go_wp2_with fail
    go_ret
    exact ⟨rfl, ba _ (Below.refl _ _)⟩
  · have hcv := conv2 w 97 52
    change (convert 75 9 (.slice (some ⟨w.heap.size, 0, none⟩) 2 2)).run Tryd.prog (w.alloc (.cells #[.int .u8 97, .int .u8 52] 5)) = .ok (.string ⟨#[97, 52]⟩) (w.alloc (.cells #[.int .u8 97, .int .u8 52] 5)) at hcv
    go_enter Tryd.func81, Tryd.ntmps81
    go_wp2_with fail
    go_ret
    exact ⟨rfl, ba _ (Below.refl _ _)⟩
  · have hcv := conv2 w 97 53
    change (convert 75 9 (.slice (some ⟨w.heap.size, 0, none⟩) 2 2)).run Tryd.prog (w.alloc (.cells #[.int .u8 97, .int .u8 53] 5)) = .ok (.string ⟨#[97, 53]⟩) (w.alloc (.cells #[.int .u8 97, .int .u8 53] 5)) at hcv
    go_enter Tryd.func81, Tryd.ntmps81
    go_wp2_with fail
    go_ret
    exact ⟨rfl, ba _ (Below.refl _ _)⟩

end Go.Proofs.YtbhondjfilohdaaDoor
/-
  Package cond: what Parse answers.
-/
namespace Go.Proofs.YtbhondjfilohdaaDoor
open Go.ChangeShapes Go.WideShapes Go.ChangeAt Go.RowKit
set_option maxRecDepth 100000

/-! ### The pieces of a text -/
theorem index_at {a r : List UInt8} (h : ∀ c ∈ a, c ≠ 32) : Lib.indexByte (a ++ 32 :: r) 32 = (a.length : Nat) := by
  rcases index_cases (a ++ 32 :: r) 32 with ⟨_, hno⟩ | ⟨o, ho, hix, hsp, hno⟩
  · exact absurd rfl (hno 32 (by simp))
  · rw [hix]
    have hlo : o = a.length := by
      rcases Nat.lt_trichotomy o a.length with hlt | he | hgt
      · have h1 : (a ++ 32 :: r)[o]? = some 32 := by
          rw [hsp, List.getElem?_append_right (by rw [List.length_take]; omega), List.length_take, Nat.min_eq_left (by omega)]
          simp
        rw [List.getElem?_append_left hlt] at h1
        exact absurd rfl (h 32 (List.mem_of_getElem? h1))
      · exact he
      · refine absurd rfl (hno 32 ?_)
        have h1 : ((a ++ 32 :: r).take o)[a.length]? = some 32 := by
          rw [List.getElem?_take, if_pos hgt, List.getElem?_append_right (Nat.le_refl _)]
          simp
        exact List.mem_of_getElem? h1
    rw [hlo]
theorem cuts_text {c : Cd} (hr : c.right = true) : cutsL 32 3 (textQ c) = [argW c.arg, numT c.mask, cmpW c.cmp, numT c.value] := by
  obtain ⟨a0, a5, k0, k5⟩ := (c.right_iff).1 hr
  have step : ∀ (k : Nat) (a r : List UInt8), (∀ x ∈ a, x ≠ 32) → cutsL 32 (k + 1) (a ++ 32 :: r) = a :: cutsL 32 k r := by
    intro k a r h
    have hd : (a ++ 32 :: r).drop (a.length + 1) = r := by
      rw [← List.drop_drop, List.drop_left]
      rfl
    rw [cutsL_hit k (index_at h), List.take_left, hd]
  unfold textQ
  rw [step 2 _ _ (argW_32 a0 a5), step 1 _ _ (numT_32 _), step 0 _ _ (cmpW_32 _)]
  rfl
theorem cuts_four {l : List UInt8} {k : Nat} {p0 p1 p2 p3 : List UInt8} (h : cutsL 32 k l = [p0, p1, p2, p3]) : l = p0 ++ 32 :: (p1 ++ 32 :: (p2 ++ 32 :: p3)) := by
  have step : ∀ (k : Nat) (l : List UInt8) (p q : List UInt8) (r : List (List UInt8)), cutsL 32 k l = p :: q :: r → ∃ j l', k = j + 1 ∧ l = p ++ 32 :: l' ∧ cutsL 32 j l' = q :: r := by
    intro k l p q r h
    cases k with
    | zero => simp [cutsL] at h
    | succ j =>
      rcases index_cases l 32 with ⟨hix, _⟩ | ⟨o, ho, hix, hsp, hno⟩
      · rw [cutsL_miss _ hix] at h
        simp at h
      · rw [cutsL_hit j hix] at h
        simp only [List.cons.injEq] at h
        exact ⟨j, _, rfl, by rw [← h.1]; exact hsp, h.2⟩
  obtain ⟨k1, l1, rfl, rfl, h1⟩ := step _ _ _ _ _ h
  obtain ⟨k2, l2, rfl, rfl, h2⟩ := step _ _ _ _ _ h1
  obtain ⟨k3, l3, rfl, rfl, h3⟩ := step _ _ _ _ _ h2
  have : l3 = p3 := by
    cases k3 with
    | zero => simpa [cutsL] using h3
    | succ j =>
      rcases index_cases l3 32 with ⟨hix, _⟩ | ⟨o, ho, hix, hsp, hno⟩
      · rw [cutsL_miss _ hix] at h3
        simpa using h3
      · rw [cutsL_hit j hix] at h3
        have := cutsL_len 32 j (l3.drop (o + 1))
        simp only [List.cons.injEq] at h3
        rw [h3.2] at this
        simp at this
  rw [this]
def QPEnd (s : ByteArray) (e : Ending) : Prop :=
  (∃ c : Cd, c.ok ∧ c.right = true ∧ s = textT c ∧ e = .returned (.tuple #[c.val, .int .i64 0])) ∨ ((∀ c : Cd, c.ok → c.right = true → s ≠ textT c) ∧ e = .returned (.tuple #[zeroCd.val, .int .i64 2]))
/-- What a text's first part says. -/
def ArgEnd (s : ByteArray) (e : Ending) : Prop :=
  (∃ n : Nat, n < 6 ∧ s = argT n ∧ e = .returned (.tuple #[.int .i64 n, .bool true])) ∨ ((∀ n : Nat, n < 6 → s ≠ argT n) ∧ e = .returned (.tuple #[.int .i64 0, .bool false]))
theorem readArg_any (s : ByteArray) (w : World) : Calls Tryd.prog 74 #[.string s] w fun e w' => ArgEnd s e ∧ Below w.heap.size w w' := by
  go_enter Tryd.func74, Tryd.ntmps74
  go_wp2_with fail
  go_loopw [5] (fun i wr => ∃ n : Nat, n ≤ 6 ∧ i = .int .i64 n ∧ Below w.heap.size w wr ∧ ∀ m, m < n → s ≠ argT m) (fun i _ => 6 - (Lib.intOf i).toNat)
  case atStart => exact ⟨0, by omega, rfl, Below.refl _ _, fun m h => by omega⟩
  case round =>
    obtain ⟨n, hn, rfl, hb, hno⟩ := hrel
    have HB := Lib.hid hb
    have HN := Lib.hid hno
    clear hb hno
    by_cases h6 : n < 6
    · have hd : decide ((n : Int) < 6) = true := by simp; omega
      go_wp2_with fail
      refine (argument_any n _ h6).mono ?_
      rintro e w1 ⟨rfl, hb1⟩
      have HB1 := Lib.hid (HB.out.trans (hb1.mono HB.out.size))
      clear hb1
      cases hq : ((argT n).toList == s.toList)
      · have HN' : Hid (∀ m, m < n + 1 → s ≠ argT m) := Lib.hid (by
          intro m hm
          by_cases e : m < n
          · exact HN.out m e
          · obtain rfl : m = n := by omega
            intro e
            rw [e] at hq
            simp at hq)
        go_wp2_with fail
        go_roundw
        case rel => exact ⟨n + 1, by omega, by go_num, HB1.out, HN'.out⟩
        case measure => simp [Lib.intOf]; omega
      · have HE : Hid (ArgEnd s (.returned (.tuple #[.int .i64 n, .bool true]))) := Lib.hid (.inl ⟨n, h6, by
          have := beq_iff_eq.1 hq
          rw [Go.ByteArray.toList_eq, Go.ByteArray.toList_eq] at this
          exact (ByteArray.ext (Array.ext' this)).symm, rfl⟩)
        go_wp2_with fail
        go_ret2
        exact ⟨HE.out, HB1.out⟩
    · obtain rfl : n = 6 := by omega
      have HE : Hid (ArgEnd s (.returned (.tuple #[.int .i64 0, .bool false]))) := Lib.hid (.inr ⟨HN.out, rfl⟩)
      go_wp2_with fail
      go_ret2
      exact ⟨HE.out, HB.out⟩

/-- What a text's third part says. -/
def CmpEnd (s : ByteArray) (e : Ending) : Prop :=
  (∃ n : Nat, n < 6 ∧ s = wordT n ∧ e = .returned (.tuple #[.int .i64 n, .bool true])) ∨ ((∀ n : Nat, n < 6 → s ≠ wordT n) ∧ e = .returned (.tuple #[.int .i64 0, .bool false]))
theorem readCmp_any (s : ByteArray) (w : World) : Calls Tryd.prog 75 #[.string s] w fun e w' => CmpEnd s e ∧ Below w.heap.size w w' := by
  go_enter Tryd.func75, Tryd.ntmps75
  go_wp2_with fail
  refine (comparisons_any _).mono ?_
  rintro e w1 ⟨rfl, hw1⟩
  have HC1 : Hid (w1.heap[w.heap.size]? = some (.cells cmpCells 63)) := Lib.hid (by rw [hw1]; exact heap_alloc_new w _)
  have HB1 : Hid (Below w.heap.size w w1) := Lib.hid (by rw [hw1]; exact ba _ (Below.refl _ _))
  clear hw1
  go_wp2_with fail
  go_loopw [8] (fun i wr => ∃ n : Nat, n ≤ 6 ∧ i = .int .i64 n ∧ Below w.heap.size w wr ∧ wr.heap[w.heap.size]? = some (.cells cmpCells 63) ∧ ∀ m : Nat, m < n → s ≠ wordT m) (fun i _ => 6 - (Lib.intOf i).toNat)
  case atStart => exact ⟨0, by omega, rfl, HB1.out, HC1.out, fun m h => by omega⟩
  case round =>
    obtain ⟨n, hn, rfl, hb, hc, hno⟩ := hrel
    have HB := Lib.hid hb
    have HC := Lib.hid hc
    have HN := Lib.hid hno
    clear hb hno hc HB1 HC1
    by_cases h6 : n < 6
    · have hd : decide ((n : Int) < 6) = true := by simp; omega
      obtain ⟨r0, r1, r2⟩ := cmpCells_at h6
      have d0 := (cell_in HC.out (n * 3)).trans r0
      have d1 := (cell_in HC.out (n * 3 + 1)).trans r1
      have d2 := (cell_in HC.out (n * 3 + 2)).trans r2
      have l0 : (0 : Int) ≤ (n : Int) := by omega
      have l1 : (n : Int) < 6 := by omega
      have hst := run_storeF (fnC_one n)
      have HC' : Hid (∀ o, (wr.alloc o).heap[w.heap.size]? = some (.cells cmpCells 63)) := Lib.hid (fun o => ka o HC.out)
      have HB' : Hid (∀ o, Below w.heap.size w (wr.alloc o)) := Lib.hid (fun o => ba o HB.out)
      generalize fnC n = F at *
      generalize notK n = K at *
      obtain ⟨T, hT⟩ : ∃ T, T = wordT n := ⟨_, rfl⟩
      rw [← hT] at d0
      have HT := Lib.hid hT
      clear hT r0 r1 r2
      cases hq : (T.toList == s.toList)
      · have HN' : Hid (∀ m : Nat, m < n + 1 → s ≠ wordT m) := Lib.hid (by
          intro m hm
          by_cases e : m < n
          · exact HN.out m e
          · obtain rfl : m = n := by omega
            intro e
            rw [HT.out, e] at hq
            simp at hq)
        go_wp2_with fail
        go_roundw
        case rel => exact ⟨n + 1, by omega, by go_num, HB'.out _, HC'.out _, HN'.out⟩
        case measure => simp [Lib.intOf]; omega
      · have HE : Hid (CmpEnd s (.returned (.tuple #[.int .i64 n, .bool true]))) := Lib.hid (.inl ⟨n, h6, by
          have := beq_iff_eq.1 hq
          rw [Go.ByteArray.toList_eq, Go.ByteArray.toList_eq] at this
          rw [← HT.out]
          exact (ByteArray.ext (Array.ext' this)).symm, rfl⟩)
        go_wp2_with fail
        go_ret2
        exact ⟨HE.out, HB'.out _⟩
    · obtain rfl : n = 6 := by omega
      have HE : Hid (CmpEnd s (.returned (.tuple #[.int .i64 0, .bool false]))) := Lib.hid (.inr ⟨HN.out, rfl⟩)
      go_wp2_with fail
      go_ret2
      exact ⟨HE.out, HB.out⟩
/-! ### The same, with letters -/
theorem ArgEnd.letters {s : ByteArray} {e : Ending} (h : ArgEnd s e) : ∃ (n : Nat) (b : Bool), e = .returned (.tuple #[.int .i64 n, .bool b]) ∧ ((b = true ∧ n < 6 ∧ s = argT n) ∨ (b = false ∧ ∀ m : Nat, m < 6 → s ≠ argT m)) := by
  rcases h with ⟨n, h1, h2, rfl⟩ | ⟨h, rfl⟩
  · exact ⟨n, true, rfl, .inl ⟨rfl, h1, h2⟩⟩
  · exact ⟨0, false, rfl, .inr ⟨rfl, h⟩⟩
theorem CmpEnd.letters {s : ByteArray} {e : Ending} (h : CmpEnd s e) : ∃ (n : Nat) (b : Bool), e = .returned (.tuple #[.int .i64 n, .bool b]) ∧ ((b = true ∧ n < 6 ∧ s = wordT n) ∨ (b = false ∧ ∀ m : Nat, m < 6 → s ≠ wordT m)) := by
  rcases h with ⟨n, h1, h2, rfl⟩ | ⟨h, rfl⟩
  · exact ⟨n, true, rfl, .inl ⟨rfl, h1, h2⟩⟩
  · exact ⟨0, false, rfl, .inr ⟨rfl, h⟩⟩
theorem ParseEnd.letters {s : ByteArray} {e : Ending} (h : ParseEnd s e) : ∃ (n : Nat) (x : Int), e = .returned (.tuple #[.int .u64 n, .int .i64 x]) ∧ n < 18446744073709551616 ∧ ((x = 0 ∧ s = Wd.txt n) ∨ (x = 2 ∧ ∀ m : Nat, m < 18446744073709551616 → s ≠ Wd.txt m)) := by
  rcases h with ⟨n, h1, h2, rfl⟩ | ⟨h, rfl⟩
  · exact ⟨n, 0, rfl, h1, .inl ⟨rfl, h2⟩⟩
  · exact ⟨0, 2, rfl, by omega, .inr ⟨rfl, h⟩⟩
theorem bsT_inj {a b : List UInt8} (h : bsT a = bsT b) : a = b := by
  have := congrArg (fun x : ByteArray => x.data.toList) h
  simpa using this
theorem textQ_len {c : Cd} : 6 ≤ (textQ c).length := by
  unfold textQ
  simp [argW, numT]
  omega
/-- The pieces of a condition's text. -/
theorem parts_of {l : List UInt8} {c : Cd} (hr : c.right = true) (e : bsT l = textT c) : cutsL 32 (min 4 (l.length + 1) - 1) l = [argW c.arg, numT c.mask, cmpW c.cmp, numT c.value] := by
  have hl : l = textQ c := bsT_inj e
  have := textQ_len (c := c)
  rw [hl, Nat.min_eq_left (by omega)]
  exact cuts_text hr
theorem four_cells {p0 p1 p2 p3 : List UInt8} : cutCells [p0, p1, p2, p3] 4 = #[.string (bsT p0), .string (bsT p1), .string (bsT p2), .string (bsT p3)] := by
  unfold cutCells Lib.cellsOf
  simp
set_option maxHeartbeats 4000000 in
theorem qparse_any (s : ByteArray) (w : World) (hs : s.size ≤ 4611686018427387904) (_ht : QTab w) :
    Calls Tryd.prog 63 #[.string s] w fun e w' => QPEnd s e ∧ Below w.heap.size w w' := by
  obtain ⟨l, rfl⟩ : ∃ l : List UInt8, s = bsT l := ⟨s.data.toList, by simp⟩
  have hl : l.length ≤ 4611686018427387904 := by simpa [ByteArray.size] using hs
  have hz := heap_alloc_new w (cdB zeroCd)
  have HB0 := Lib.hid (ba (cdB zeroCd) (Below.refl w.heap.size w))
  obtain ⟨W, hW⟩ : ∃ W, W = w.alloc (cdB zeroCd) := ⟨_, rfl⟩
  rw [← hW] at hz HB0
  have HZ0 := Lib.hid hz
  clear hz hs
  obtain ⟨N, hN⟩ : ∃ N, N = min 4 (l.length + 1) := ⟨_, rfl⟩
  obtain ⟨ps, hps⟩ : ∃ ps, ps = cutsL 32 (N - 1) l := ⟨_, rfl⟩
  have hsp := splitN_any l 32 4 N W hl (by omega) hN (by omega)
  rw [← hps] at hsp
  have HSP := Lib.hid hsp
  have HT : Hid (∀ c : Cd, c.right = true → bsT l = textT c → ps = [argW c.arg, numT c.mask, cmpW c.cmp, numT c.value]) := Lib.hid (fun c hr e => by rw [hps, hN]; exact parts_of hr e)
  have HPS := Lib.hid hps
  have hle : ps.length ≤ N - 1 + 1 := by rw [hps]; exact (cutsL_len 32 _ l).2
  have hN4 : N ≤ 4 := by omega
  have hN1 : 1 ≤ N := by omega
  clear hps hN hsp
  have HEQ : Hid (∀ p0 p1 p2 p3, ps = [p0, p1, p2, p3] → l = p0 ++ 32 :: (p1 ++ 32 :: (p2 ++ 32 :: p3))) := Lib.hid (fun p0 p1 p2 p3 h => cuts_four (by rw [← HPS.out]; exact h))
  obtain ⟨S, hS⟩ : ∃ S, S = bsT l := ⟨_, rfl⟩
  rw [← hS] at HSP HT ⊢
  have HS := Lib.hid hS
  clear hS
  by_cases h4 : ps.length = 4
  · obtain ⟨p0, p1, p2, p3, rfl⟩ : ∃ p0 p1 p2 p3, ps = [p0, p1, p2, p3] := by
      match ps, h4 with
      | [p0, p1, p2, p3], _ => exact ⟨p0, p1, p2, p3, rfl⟩
    obtain rfl : N = 4 := by simp at hle; omega
    have hlen : l.length = p0.length + (p1.length + (p2.length + (p3.length + 1) + 1) + 1) := by
      have e := HEQ.out _ _ _ _ rfl
      rw [e]
      simp only [List.length_append, List.length_cons]
    have hz1 : (bsT p1).size ≤ 4611686018427387904 := by
      have : (bsT p1).size = p1.length := by simp [ByteArray.size]
      omega
    have hz3 : (bsT p3).size ≤ 4611686018427387904 := by
      have : (bsT p3).size = p3.length := by simp [ByteArray.size]
      omega
    have hsp := HSP.out
    rw [four_cells] at hsp
    have HSP4 := Lib.hid hsp
    clear hsp HSP hlen h4 hle hN4 hN1 hl
    obtain ⟨S0, hS0⟩ : ∃ S, S = bsT p0 := ⟨_, rfl⟩
    obtain ⟨S1, hS1⟩ : ∃ S, S = bsT p1 := ⟨_, rfl⟩
    obtain ⟨S2, hS2⟩ : ∃ S, S = bsT p2 := ⟨_, rfl⟩
    obtain ⟨S3, hS3⟩ : ∃ S, S = bsT p3 := ⟨_, rfl⟩
    rw [← hS0, ← hS1, ← hS2, ← hS3] at HSP4
    rw [← hS1] at hz1
    rw [← hS3] at hz3
    have HS0 := Lib.hid hS0
    have HS1 := Lib.hid hS1
    have HS2 := Lib.hid hS2
    have HS3 := Lib.hid hS3
    clear hS0 hS1 hS2 hS3
    go_enter Tryd.func63, Tryd.ntmps63
    go_upto_region 1 with fail
    change Code.wp _ _ _ _ (w.alloc (cdB zeroCd))
    rw [← hW]
    clear hW
    go_wp2_with fail
    refine HSP4.out.mono ?_
    rintro e w1 ⟨rfl, hw1⟩
    have hr1 : w1.heap[W.heap.size]? = some (.cells #[.string S0, .string S1, .string S2, .string S3] 9) := by rw [hw1]; exact heap_alloc_new W _
    have HR1 := Lib.hid hr1
    have HB1 : Hid (Below w.heap.size w w1) := Lib.hid (by rw [hw1]; exact ba _ HB0.out)
    have HZ1 : Hid (w1.heap[w.heap.size]? = some (cdB zeroCd)) := Lib.hid (by rw [hw1]; exact ka _ HZ0.out)
    have e0 : w1.cell? ⟨W.heap.size, 0, none⟩ = some (.string S0) := cell_in hr1 0
    generalize W.heap.size = g at *
    clear hw1 hr1 HSP4 HZ0 HB0
    go_wp2_with fail
    refine (readArg_any _ _).mono ?_
    rintro e w2 ⟨hA, hb2⟩
    obtain ⟨n, b0, rfl, hA0⟩ := hA.letters
    have HA := Lib.hid hA0
    have HR2 := Lib.hid (kb hb2 HR1.out)
    have HZ2 := Lib.hid (kb hb2 HZ1.out)
    have HB2 := Lib.hid (below2 HB1.out hb2)
    have e1 : w2.cell? ⟨g, 1, none⟩ = some (.string S1) := cell_in HR2.out 1
    clear hA hA0 hb2 e0 HR1 HZ1 HB1
    go_wp2_with fail
    refine (parse_any S1 _ hz1).mono ?_
    rintro e w3 ⟨hA, hb3⟩
    obtain ⟨m, x1, rfl, hm, hA0⟩ := hA.letters
    have HM := Lib.hid hA0
    have HR3 := Lib.hid (kb hb3 HR2.out)
    have HZ3 := Lib.hid (kb hb3 HZ2.out)
    have HB3 := Lib.hid (below2 HB2.out hb3)
    have e2 : w3.cell? ⟨g, 2, none⟩ = some (.string S2) := cell_in HR3.out 2
    clear hA hA0 hb3 e1 HR2 HZ2 HB2
    go_wp2_with fail
    refine (readCmp_any S2 _).mono ?_
    rintro e w4 ⟨hA, hb4⟩
    obtain ⟨k, b2, rfl, hA0⟩ := hA.letters
    have HK := Lib.hid hA0
    have HR4 := Lib.hid (kb hb4 HR3.out)
    have HZ4 := Lib.hid (kb hb4 HZ3.out)
    have HB4 := Lib.hid (below2 HB3.out hb4)
    have e3 : w4.cell? ⟨g, 3, none⟩ = some (.string S3) := cell_in HR4.out 3
    clear hA hA0 hb4 e2 HR3 HZ3 HB3
    go_wp2_with fail
    refine (parse_any S3 _ hz3).mono ?_
    rintro e w5 ⟨hA, hb5⟩
    obtain ⟨v, x3, rfl, hv, hA0⟩ := hA.letters
    have HV := Lib.hid hA0
    have HZ5 := Lib.hid (kb hb5 HZ4.out)
    have HB5 := Lib.hid (below2 HB4.out hb5)
    have r0 := cell_in HZ5.out 0
    have r1 := cell_in HZ5.out 1
    have r2 := cell_in HZ5.out 2
    have r3 := cell_in HZ5.out 3
    have f0 := free_in HZ5.out 0
    have f1 := free_in HZ5.out 1
    have f2 := free_in HZ5.out 2
    have f3 := free_in HZ5.out 3
    have hlt : w.heap.size < w5.heap.size := lt_of_block HZ5.out
    clear hA hA0 hb5 e3 HR4 HZ4 HB4
    rcases HA.out with ⟨rfl, hn6, hn⟩ | ⟨rfl, hno⟩
    rotate_left
    · have HE : Hid (QPEnd S (.returned (.tuple #[zeroCd.val, .int .i64 2]))) := Lib.hid (.inr ⟨fun c _ hr e => by
        have h := HT.out c hr e
        simp only [List.cons.injEq] at h
        have h' := (c.right_iff).1 hr
        exact hno c.arg.toNat (by omega) (by rw [HS0.out, h.1]; unfold argT; rw [show ((c.arg.toNat : Nat) : Int) = c.arg by omega]), rfl⟩)
      clear hno
      go_wp2_with fail
      (try simp only [Exit.inBlock, Exit.then])
      refine bodyPost_ret (v := .tuple #[.agg #[.int .i64 0, .int .i64 0, .int .u64 0, .int .u64 0], .int .i64 2]) ?_ rfl ⟨HE.out, ?_⟩
      · rw [results_cell_tmp rfl]
        go_simp
      · have hB := HB5.out
        go_grown
    rcases HM.out with ⟨rfl, hm1⟩ | ⟨rfl, hno⟩
    rotate_left
    · have HE : Hid (QPEnd S (.returned (.tuple #[zeroCd.val, .int .i64 2]))) := Lib.hid (.inr ⟨fun c hc hr e => by
        have h := HT.out c hr e
        simp only [List.cons.injEq] at h
        exact hno c.mask hc.1 (by rw [HS1.out, h.2.1]; rfl), rfl⟩)
      clear hno hn
      go_wp2_with fail
      (try simp only [Exit.inBlock, Exit.then])
      refine bodyPost_ret (v := .tuple #[.agg #[.int .i64 0, .int .i64 0, .int .u64 0, .int .u64 0], .int .i64 2]) ?_ rfl ⟨HE.out, ?_⟩
      · rw [results_cell_tmp rfl]
        go_simp
      · have hB := HB5.out
        go_grown
    rcases HK.out with ⟨rfl, hk6, hk⟩ | ⟨rfl, hno⟩
    rotate_left
    · have HE : Hid (QPEnd S (.returned (.tuple #[zeroCd.val, .int .i64 2]))) := Lib.hid (.inr ⟨fun c hc hr e => by
        have h := HT.out c hr e
        simp only [List.cons.injEq] at h
        have h' := (c.right_iff).1 hr
        exact hno c.cmp.toNat (by omega) (by rw [HS2.out, h.2.2.1]; unfold wordT; rw [show ((c.cmp.toNat : Nat) : Int) = c.cmp by omega]), rfl⟩)
      clear hno hn hm1
      go_wp2_with fail
      (try simp only [Exit.inBlock, Exit.then])
      refine bodyPost_ret (v := .tuple #[.agg #[.int .i64 0, .int .i64 0, .int .u64 0, .int .u64 0], .int .i64 2]) ?_ rfl ⟨HE.out, ?_⟩
      · rw [results_cell_tmp rfl]
        go_simp
      · have hB := HB5.out
        go_grown
    rcases HV.out with ⟨rfl, hv1⟩ | ⟨rfl, hno⟩
    rotate_left
    · have HE : Hid (QPEnd S (.returned (.tuple #[zeroCd.val, .int .i64 2]))) := Lib.hid (.inr ⟨fun c hc hr e => by
        have h := HT.out c hr e
        simp only [List.cons.injEq] at h
        exact hno c.value hc.2 (by rw [HS3.out, h.2.2.2.1]; rfl), rfl⟩)
      clear hno hn hm1 hk
      go_wp2_with fail
      (try simp only [Exit.inBlock, Exit.then])
      refine bodyPost_ret (v := .tuple #[.agg #[.int .i64 0, .int .i64 0, .int .u64 0, .int .u64 0], .int .i64 2]) ?_ rfl ⟨HE.out, ?_⟩
      · rw [results_cell_tmp rfl]
        go_simp
      · have hB := HB5.out
        go_grown
    have HE : Hid (QPEnd S (.returned (.tuple #[(⟨n, k, m, v⟩ : Cd).val, .int .i64 0]))) := Lib.hid (.inl ⟨⟨n, k, m, v⟩, ⟨hm, hv⟩, cd_right hn6 hk6, by
      have q0 : p0 = argW n := bsT_inj (HS0.out.symm.trans hn)
      have q1 : p1 = numT m := bsT_inj (HS1.out.symm.trans hm1)
      have q2 : p2 = cmpW k := bsT_inj (HS2.out.symm.trans hk)
      have q3 : p3 = numT v := bsT_inj (HS3.out.symm.trans hv1)
      rw [HS.out, HEQ.out _ _ _ _ rfl, q0, q1, q2, q3]
      rfl, rfl⟩)
    clear hn hm1 hk hv1
    go_wp2_with fail
    (try simp only [Exit.inBlock, Exit.then])
    refine bodyPost_ret (v := .tuple #[.agg #[.int .i64 n, .int .i64 k, .int .u64 m, .int .u64 v], .int .i64 0]) ?_ rfl ⟨HE.out, ?_⟩
    · rw [results_cell_tmp rfl]
      go_simp
    · have hB := HB5.out
      go_grown
  · have HE : Hid (QPEnd S (.returned (.tuple #[zeroCd.val, .int .i64 2]))) := Lib.hid (.inr ⟨fun c _ hr e => h4 (by rw [HT.out c hr e]; rfl), rfl⟩)
    have h4' : ((ps.length : Int) != 4) = true := by simp; omega
    have r0 := cell_in HZ0.out 0
    have r1 := cell_in HZ0.out 1
    have r2 := cell_in HZ0.out 2
    have r3 := cell_in HZ0.out 3
    have f0 := free_in HZ0.out 0
    have f1 := free_in HZ0.out 1
    have f2 := free_in HZ0.out 2
    have f3 := free_in HZ0.out 3
    have hlt : w.heap.size < W.heap.size := lt_of_block HZ0.out
    clear h4
    go_enter Tryd.func63, Tryd.ntmps63
    go_upto_region 1 with fail
    change Code.wp _ _ _ _ (w.alloc (cdB zeroCd))
    rw [← hW]
    clear hW
    go_wp2_with fail
    refine HSP.out.mono ?_
    rintro e w1 ⟨rfl, rfl⟩
    go_wp2_with fail
    (try simp only [Exit.inBlock, Exit.then])
    refine bodyPost_ret (v := .tuple #[.agg #[.int .i64 0, .int .i64 0, .int .u64 0, .int .u64 0], .int .i64 2]) ?_ rfl ⟨HE.out, ?_⟩
    · rw [results_cell_tmp rfl]
      go_simp
    · have hB := HB0.out
      go_grown
end Go.Proofs.YtbhondjfilohdaaDoor
