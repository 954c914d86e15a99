/-
  What package names of the program answers: its tables are maps from names to numbers.
-/
import Derived.Test.YtmijnhcbbklmaaaDoorNRefR
import Derived.Test.YtmijnhcbbklmaaaDoorTxt
import Derived.Maps.RangeWalk
import Derived.StringKeys
import Derived.Lib.QuietBelow
namespace Go.Proofs.YtmijnhcbbklmaaaDoor
open Go.ChangeShapes Go.WideShapes Go.ChangeAt Go.RowKit
set_option maxRecDepth 20000

/-! ### A table as a map -/
/-- The elements of a map read as themselves. -/
def nmR : Value → Option (DataW Value × List MemPlace) := fun v => some (.held v, [])
theorem keyS : Go.Maps.Keyed Tryd.prog 9 := Go.Maps.string_keyed Tryd.underlying9
def nkey (s : ByteArray) : Lit := .string s.data.toList
def nval (n : Nat) : Value := .int .u32 n
theorem nkey_lit (s : ByteArray) : WideAt.IsKeyLit (nkey s) := by unfold nkey; exact True.intro
theorem nkey_inj {s t : ByteArray} (h : nkey s = nkey t) : s = t := by
  unfold nkey at h
  exact ByteArray.ext (Array.ext' (by simpa using h))
theorem keyOfS {s : ByteArray} (h : s.size ≤ maxLen) : keyOf Tryd.prog 9 (.string s) = some (nkey s) := WideMaps.keyOf_string_mk Tryd.underlying9 h
def tblPut : Tbl → DataW Value → DataW Value
  | [], D => D
  | p :: T, D => tblPut T (D.put (nkey p.1) (.held (nval p.2)))
def tblD (T : Tbl) : DataW Value := tblPut T (.map [])
theorem put_isMap {D : DataW Value} (h : Maps.IsMap D) (k : Lit) (v : DataW Value) : Maps.IsMap (D.put k v) := Maps.IsMap.put h k v
theorem has_tblPut : ∀ (T : Tbl) (D : DataW Value) (kl : Lit), Maps.IsMap D → (Maps.has (tblPut T D) kl = true ↔ (∃ p ∈ T, nkey p.1 = kl) ∨ Maps.has D kl = true)
  | [], D, kl, _ => by simp [tblPut]
  | p :: T, D, kl, hm => by
    have ih := has_tblPut T (D.put (nkey p.1) (.held (nval p.2))) kl (put_isMap hm _ _)
    show Maps.has (tblPut T _) kl = true ↔ _
    rw [ih]
    by_cases e : nkey p.1 = kl
    · subst e
      rw [Maps.has_put_same hm (nkey_lit _)]
      simp
    · rw [Maps.has_put_other (fun h => e h.symm)]
      simp [e]
theorem has_tbl (T : Tbl) (kl : Lit) : Maps.has (tblD T) kl = true ↔ ∃ p ∈ T, nkey p.1 = kl := by
  unfold tblD
  rw [has_tblPut T _ kl Maps.isMap_empty]
  constructor
  · rintro (h | h)
    · exact h
    · cases h
  · exact .inl
theorem at_miss : ∀ (T : Tbl) (D : DataW Value) (kl : Lit) (z : DataW Value), (∀ p ∈ T, nkey p.1 ≠ kl) → (tblPut T D).atKey kl z = D.atKey kl z
  | [], _, _, _, _ => rfl
  | p :: T, D, kl, z, h => by
    show (tblPut T _).atKey kl z = _
    rw [at_miss T _ kl z (fun q hq => h q (by simp [hq])), Maps.atKey_put_other (fun e => h p (by simp) e.symm)]
theorem at_hit : ∀ (T : Tbl) (D : DataW Value) (p : ByteArray × Nat) (z : DataW Value), tblGood T = true → p ∈ T → Maps.IsMap D → (tblPut T D).atKey (nkey p.1) z = .held (nval p.2)
  | q :: T, D, p, z, hT, hp, hm => by
    obtain ⟨h1, _, _, h4⟩ := tbl_cons hT
    show (tblPut T _).atKey _ z = _
    rcases List.mem_cons.1 hp with rfl | hp
    · rw [at_miss T _ _ z (fun r hr e => (h1 r hr).1 (nkey_inj e).symm), Maps.atKey_put_same hm (nkey_lit _)]
    · exact at_hit T _ p z h4 hp (put_isMap hm _ _)
theorem at_tbl {T : Tbl} (hT : tblGood T = true) {p : ByteArray × Nat} (hp : p ∈ T) (z : DataW Value) : (tblD T).atKey (nkey p.1) z = .held (nval p.2) := at_hit T _ p z hT hp Maps.isMap_empty
/-- A table, as it lies in a world. -/
def MAt (w : World) (v : Value) (T : Tbl) : Prop := (T = [] ∧ v = .map none) ∨ ∃ b, v = .map (some b) ∧ w.ownsMap Tryd.prog 9 nmR b T.length (tblD T)
theorem nmap_below {w w' : World} {b n : Nat} {D : DataW Value} (h : w.ownsMap Tryd.prog 9 nmR b n D) (hb : Below w.heap.size w w') : w'.ownsMap Tryd.prog 9 nmR b n D := by
  obtain ⟨es, clock, hh, r⟩ := h
  exact ⟨es, clock, (hb.block b (lt_of_block hh)).trans hh, r⟩
theorem MAt.below {w w' : World} {v : Value} {T : Tbl} (h : MAt w v T) (hb : Below w.heap.size w w') : MAt w' v T := h.imp id fun ⟨b, e, h⟩ => ⟨b, e, nmap_below h hb⟩
theorem zeroU (w : World) : (zeroValue 22).run Tryd.prog w = .ok (.int .u32 0) w := by kernel_rfl
/-- What is looked up. -/
theorem look_hit {w : World} {v : Value} {T : Tbl} (hT : tblGood T = true) (h : MAt w v T) {p : ByteArray × Nat} (hp : p ∈ T) (hs : p.1.size ≤ maxLen) :
    (Instr.lookup 40 v (.string p.1) true).run Tryd.prog w = .ok (.tuple #[.int .u32 (p.2 : Nat), .bool true]) w := by
  rcases h with ⟨rfl, _⟩ | ⟨b, rfl, h⟩
  · cases hp
  · obtain ⟨v, ps, hr, hv⟩ := h.look_ok keyS Tryd.underlying40 (zeroU w) (zd := .held (.int .u32 0)) (zp := []) rfl (keyOfS hs)
    rw [at_tbl hT hp] at hv
    rw [(has_tbl T _).2 ⟨p, hp, rfl⟩] at hr
    unfold nmR at hv
    simp only [Option.some.injEq, Prod.mk.injEq, DataW.held.injEq] at hv
    rw [hr, hv.1]
    rfl
theorem look_miss {w : World} {v : Value} {T : Tbl} (h : MAt w v T) {s : ByteArray} (hn : ∀ p ∈ T, p.1 ≠ s) (hs : s.size ≤ maxLen) :
    (Instr.lookup 40 v (.string s) true).run Tryd.prog w = .ok (.tuple #[.int .u32 0, .bool false]) w := by
  rcases h with ⟨rfl, rfl⟩ | ⟨b, rfl, h⟩
  · exact Maps.look_nil true keyS Tryd.underlying40 (zeroU w) (keyOfS hs)
  · obtain ⟨v, ps, hr, hv⟩ := h.look_ok keyS Tryd.underlying40 (zeroU w) (zd := .held (.int .u32 0)) (zp := []) rfl (keyOfS hs)
    have hno : ∀ p ∈ T, nkey p.1 ≠ nkey s := fun p hp e => hn p hp (nkey_inj e)
    have hh : Maps.has (tblD T) (nkey s) = false := by
      cases e : Maps.has (tblD T) (nkey s)
      · rfl
      · obtain ⟨p, hp, e2⟩ := (has_tbl T _).1 e
        exact absurd e2 (hno p hp)
    unfold tblD at hv
    rw [at_miss T _ _ _ hno] at hv
    rw [hh] at hr
    unfold nmR at hv
    have hv' : v = .int .u32 0 := by
      have : (some (DataW.held v, ([] : List MemPlace))) = some (DataW.held (.int .u32 0), ps) := hv
      simp only [Option.some.injEq, Prod.mk.injEq, DataW.held.injEq] at this
      exact this.1
    rw [hr, hv']
/-- The map while it is filled. -/
def NK (w0 : World) (b n : Nat) (D : DataW Value) (w : World) : Prop := w.ownsMap Tryd.prog 9 nmR b n D ∧ Below w0.heap.size w0 w ∧ w0.heap.size ≤ b
theorem nk_new (w : World) : NK w w.heap.size 0 (.map []) (w.alloc (.map #[] 0)) :=
  ⟨World.ownsMap_made w Tryd.prog 9 nmR, ba _ (Below.refl _ _), Nat.le_refl _⟩
theorem wpList_nins (w : World) {ops : Array Oper} {rest : List Oper} {o : Oper} {a : Act} {Q : Exit → Act → World → Prop}
    (hg : o.guard = none) (m x v : Operand) (hop : o.op = Op.insert 40 m x v) {w0 : World} {b n : Nat} {D : DataW Value}
    (hm : a.eval m = .map (some b)) (h : NK w0 b n D w) (hn : n < 100) (k : ByteArray) (hk : k.size ≤ 100) (hx : a.eval x = .string k) (y : Int) (hv : a.eval v = .int .u32 y) (z : Nat) (hz : y = z)
    (hK : ∀ w', NK w0 b (n + 1) (D.put (nkey k) (.held (nval z))) w' → wpList Tryd.prog ops Q rest (a.put o.dst undef) w') : wpList Tryd.prog ops Q (o :: rest) a w := by
  subst hz
  obtain ⟨h1, h2, h3⟩ := h
  refine wpList_insert_own w hg m x v _ hop _ _ keyS Tryd.underlying40 nmR b n D hm h1 (by unfold maxLen; omega) _ _ _ hx hv (keyOfS (by unfold maxLen; omega)) _ [] rfl ?_
  intro w' h1' hg'
  exact hK w' ⟨h1', h2.grown hg' h2.size (fun k hk => by cases hk; exact h3), h3⟩
/-- What a table's making ends with. -/
def MkEnd (T : Tbl) (w : World) (e : Ending) (w' : World) : Prop := ∃ v, e = .returned v ∧ MAt w' v T ∧ Below w.heap.size w w'
theorem mkEnd {T : Tbl} {w w' : World} {n : Nat} (h : NK w w.heap.size n (tblD T) w') (hn : n = T.length) : MkEnd T w (.returned (.map (some w.heap.size))) w' := by
  subst hn
  exact ⟨_, rfl, .inr ⟨_, rfl, h.1⟩, h.2.1⟩
theorem mkNil (w : World) : MkEnd [] w (.returned (.map none)) w := ⟨_, rfl, .inl ⟨rfl, rfl⟩, Below.refl _ _⟩

/-! ### The three tables -/
theorem machines_any (w : World) : Calls Tryd.prog 26 #[] w (MkEnd machT w) := by
  have hend : ∀ w', NK w w.heap.size 4 (tblD machT) w' → MkEnd machT w (.returned (.map (some w.heap.size))) w' := fun w' h => mkEnd h rfl
  have hmm := @run_makeMap Tryd.prog
  have M0 := nk_new w
  go_enter Tryd.func26, Tryd.ntmps26
  go_wp2_with (first | (refine wpList_nins _ rfl _ _ _ rfl rfl (by assumption) (by omega) _ (by decide) rfl _ rfl _ rfl ?_; intro w' h') | go_in)
  go_ret
  exact hend _ (by assumption)
def actTab : Tbl := [(bkillA, 0), (btrap, 196608), (blog, 2147221504), (ballow, 2147418112)]
theorem actTab_good : tblGood actTab = true := by decide
theorem actions_any (w : World) : Calls Tryd.prog 22 #[] w (MkEnd actTab w) := by
  have hend : ∀ w', NK w w.heap.size 4 (tblD actTab) w' → MkEnd actTab w (.returned (.map (some w.heap.size))) w' := fun w' h => mkEnd h rfl
  have hmm := @run_makeMap Tryd.prog
  have M0 := nk_new w
  go_enter Tryd.func22, Tryd.ntmps22
  go_wp2_with (first | (refine wpList_nins _ rfl _ _ _ rfl rfl (by assumption) (by omega) _ (by decide) rfl _ rfl _ rfl ?_; intro w' h') | go_in)
  go_ret
  exact hend _ (by assumption)
theorem eqN {m k : Nat} (h : m = k) : ((m : Int) == (k : Int)) = true := by simp [h]
theorem neN {m k : Nat} (h : m ≠ k) : ((m : Int) == (k : Int)) = false := by simp; omega
theorem calls_any (m : Nat) (w : World) : Calls Tryd.prog 29 #[.int .u32 m] w (MkEnd (callT m) w) := by
  have hmm := @run_makeMap Tryd.prog
  have M0 := nk_new w
  by_cases h1 : m = 3221225534
  · have d1 : ((m : Int) == 3221225534) = true := eqN h1
    have hend : ∀ w', NK w w.heap.size 8 (tblD callX64) w' → MkEnd (callT m) w (.returned (.map (some w.heap.size))) w' := fun w' h => by subst h1; exact mkEnd h rfl
    clear h1
    go_enter Tryd.func29, Tryd.ntmps29
    go_wp2_with (first | (refine wpList_nins _ rfl _ _ _ rfl rfl (by assumption) (by omega) _ (by decide) rfl _ rfl _ rfl ?_; intro w' h') | go_in)
    go_ret
    exact hend _ (by assumption)
  by_cases h2 : m = 1073741827
  · have d1 : ((m : Int) == 3221225534) = false := neN h1
    have d2 : ((m : Int) == 1073741827) = true := eqN h2
    have hend : ∀ w', NK w w.heap.size 8 (tblD callX86) w' → MkEnd (callT m) w (.returned (.map (some w.heap.size))) w' := fun w' h => by subst h2; exact mkEnd h rfl
    clear h1 h2
    go_enter Tryd.func29, Tryd.ntmps29
    go_wp2_with (first | (refine wpList_nins _ rfl _ _ _ rfl rfl (by assumption) (by omega) _ (by decide) rfl _ rfl _ rfl ?_; intro w' h') | go_in)
    go_ret
    exact hend _ (by assumption)
  by_cases h3 : m = 3221225655
  · have d1 : ((m : Int) == 3221225534) = false := neN h1
    have d2 : ((m : Int) == 1073741827) = false := neN h2
    have d3 : ((m : Int) == 3221225655) = true := eqN h3
    have hend : ∀ w', NK w w.heap.size 6 (tblD callA64) w' → MkEnd (callT m) w (.returned (.map (some w.heap.size))) w' := fun w' h => by subst h3; exact mkEnd h rfl
    clear h1 h2 h3
    go_enter Tryd.func29, Tryd.ntmps29
    go_wp2_with (first | (refine wpList_nins _ rfl _ _ _ rfl rfl (by assumption) (by omega) _ (by decide) rfl _ rfl _ rfl ?_; intro w' h') | go_in)
    go_ret
    exact hend _ (by assumption)
  by_cases h4 : m = 1073741864
  · have d1 : ((m : Int) == 3221225534) = false := neN h1
    have d2 : ((m : Int) == 1073741827) = false := neN h2
    have d3 : ((m : Int) == 3221225655) = false := neN h3
    have d4 : ((m : Int) == 1073741864) = true := eqN h4
    have hend : ∀ w', NK w w.heap.size 7 (tblD callArm) w' → MkEnd (callT m) w (.returned (.map (some w.heap.size))) w' := fun w' h => by subst h4; exact mkEnd h rfl
    clear h1 h2 h3 h4
    go_enter Tryd.func29, Tryd.ntmps29
    go_wp2_with (first | (refine wpList_nins _ rfl _ _ _ rfl rfl (by assumption) (by omega) _ (by decide) rfl _ rfl _ rfl ?_; intro w' h') | go_in)
    go_ret
    exact hend _ (by assumption)
  · have d1 : ((m : Int) == 3221225534) = false := neN h1
    have d2 : ((m : Int) == 1073741827) = false := neN h2
    have d3 : ((m : Int) == 3221225655) = false := neN h3
    have d4 : ((m : Int) == 1073741864) = false := neN h4
    have hend : MkEnd (callT m) w (.returned (.map none)) w := by
      have e : callT m = [] := by unfold callT; rw [if_neg h1, if_neg h2, if_neg h3, if_neg h4]
      rw [e]
      exact mkNil w
    clear h1 h2 h3 h4
    go_enter Tryd.func29, Tryd.ntmps29
    go_wp2_with fail
    go_ret
    exact hend
/-! ### A number's name -/
/-- What a look for a number's name ends with. -/
def NameEnd (T : Tbl) (n : Nat) (e : Ending) : Prop :=
  (∃ p ∈ T, p.2 = n ∧ e = .returned (.tuple #[.string p.1, .bool true])) ∨ ((∀ p ∈ T, p.2 ≠ n) ∧ e = .returned (.tuple #[.string ⟨#[]⟩, .bool false]))
theorem wpList_ntbl {T : Tbl} (hT : tblGood T = true) (w : World) {ops : Array Oper} {rest : List Oper} {o : Oper} {a : Act} {Q : Exit → Act → World → Prop}
    (hg : o.guard = none) (it : Operand) (hop : o.op = Op.next it false) (b r n : Nat) (left : Lit → Bool) (cnt : Nat) (hit : a.eval it = .pointer (some ⟨r, 0, none⟩))
    (h : w.ranges Tryd.prog 9 nmR b r n (tblD T) left cnt)
    (hDone : (∀ kl, left kl = false) → wpList Tryd.prog ops Q rest (a.put o.dst (.tuple #[.bool false])) w)
    (hMore : ∀ (p : ByteArray × Nat) (w' : World) (cnt' : Nat), p ∈ T → w'.ranges Tryd.prog 9 nmR b r n (tblD T) (fun z => left z && !z.sameKey (nkey p.1)) cnt' → cnt' < cnt → w.grownBy w' (some r) →
      (Instr.entry (.pointer (some ⟨r, 0, none⟩))).run Tryd.prog w' = .ok (.tuple #[.string p.1, .int .u32 (p.2 : Nat)]) w' → wpList Tryd.prog ops Q rest (a.put o.dst (.tuple #[.bool true, .string p.1, .int .u32 (p.2 : Nat)])) w') :
    wpList Tryd.prog ops Q (o :: rest) a w := by
  refine wpList_next_ranges w hg it hop 9 keyS nmR (fun s : ByteArray => Value.string s) (fun v : Value => v) (fun key kl hk => ?_) (fun v y _ => ⟨v, rfl⟩) b r n (tblD T) left cnt hit h (fun _ hl => hDone hl) ?_
  · obtain ⟨s, rfl, _, _⟩ := WideMaps.string_of_keyOf Tryd.underlying9 hk
    exact ⟨s, rfl⟩
  · intro x c kl y w' cnt' hk hl hR hat hrg hlt hgr _ hen
    obtain ⟨s, e, rfl, _⟩ := WideMaps.string_of_keyOf Tryd.underlying9 hk
    obtain rfl : x = s := by injection e
    have hh : Maps.has (tblD T) (nkey x) = true := Maps.has_true_of_atKey hat
    obtain ⟨p, hp, ep⟩ := (has_tbl T _).1 hh
    have ex := nkey_inj ep
    subst ex
    have hv := hat (.held .nilFunc)
    have h2 := at_tbl hT hp (.held .nilFunc)
    unfold nkey at h2
    rw [h2] at hv
    unfold nmR at hR
    simp only [Option.some.injEq] at hR
    subst hR
    simp only [DataW.held.injEq] at hv
    subst hv
    exact hMore p w' cnt' hp hrg hlt hgr hen
theorem nameOf_nil (n : Nat) (w : World) : Calls Tryd.prog 21 #[.map none, .int .u32 n] w fun e w' => e = .returned (.tuple #[.string ⟨#[]⟩, .bool false]) ∧ Below w.heap.size w w' := by
  have hrg := run_range_nilMap (P := Tryd.prog) w 40 9 22 Tryd.underlying40
  have hnx : ∀ ty, (Instr.next (.pointer (some ⟨w.heap.size, 0, none⟩)) false ty).run Tryd.prog (w.alloc (.mapIter none 0 #[] 0)) = _ := fun ty => run_next_nilMap w ty 0 0 #[]
  go_enter Tryd.func21, Tryd.ntmps21
  go_wp2
  refine wp_loop_rounds 1 ?_
  rw [rounds_succ]
  go_wp2
  go_ret2
  exact ⟨rfl, ba _ (Below.refl _ _)⟩
/-- What has not been found so far. -/
def Past (T : Tbl) (left : Lit → Bool) (n : Nat) : Prop := ∀ p ∈ T, left (nkey p.1) = false → p.2 ≠ n
theorem past_start (T : Tbl) (n : Nat) : Past T (Maps.has (tblD T)) n := fun p hp h => by
  rw [(has_tbl T _).2 ⟨p, hp, rfl⟩] at h
  cases h
theorem past_step {T : Tbl} (hT : tblGood T = true) {left : Lit → Bool} {n : Nat} (h : Past T left n) {p : ByteArray × Nat} (hp : p ∈ T) (hn : p.2 ≠ n) : Past T (fun z => left z && !z.sameKey (nkey p.1)) n := fun q hq e => by
  cases hl : left (nkey q.1)
  · exact h q hq hl
  · have e2 : (left (nkey q.1) && !(nkey q.1).sameKey (nkey p.1)) = false := e
    rw [hl] at e2
    have e3 : (nkey q.1).sameKey (nkey p.1) = true := by simpa using e2
    rw [tbl_names hT hq hp (nkey_inj (WideAt.sameKey_eq e3))]
    exact hn
theorem nameOf_some {T : Tbl} (hT : tblGood T = true) (b n : Nat) (w : World) (hown : w.ownsMap Tryd.prog 9 nmR b T.length (tblD T)) :
    Calls Tryd.prog 21 #[.map (some b), .int .u32 n] w fun e w' => NameEnd T n e ∧ Below w.heap.size w w' := by
  have HTG := Lib.hid hT
  go_enter Tryd.func21, Tryd.ntmps21
  go_wp2_with (first
    | (at_range; refine wpList_range_own _ rfl _ 40 rfl 9 22 keyS Tryd.underlying40 _ b _ _ rfl hown ?_; intro w0 hrg0 hg0 hs0)
    | go_in)
  go_frame
  have hb0 : Below w.heap.size w w0 := (Below.refl _ _).grown hg0 (Nat.le_refl _) (fun k hk => by cases hk)
  clear hg0 hs0 hT hown
  go_loopw [6, 7] (fun _ _ wr => ∃ (left : Lit → Bool) (cnt : Nat), wr.ranges Tryd.prog 9 nmR b w.heap.size T.length (tblD T) left cnt ∧ Below w.heap.size w wr ∧ Past T left n)
    (fun _ _ wr => wr.rangeLeft b w.heap.size)
  case atStart => exact ⟨_, _, hrg0, hb0, past_start T n⟩
  case round =>
    obtain ⟨left, cnt, hrg, hbw, hpa⟩ := hrel
    have HB := Lib.hid hbw
    have HP := Lib.hid hpa
    clear hrg0 hb0 hbw hpa
    go_wp2_with (first
      | (at_next; refine wpList_ntbl HTG.out _ rfl _ rfl b w.heap.size _ _ _ rfl hrg ?_ ?_)
      | go_in)
    · intro hl
      have HE : Hid (NameEnd T n (.returned (.tuple #[.string ⟨#[]⟩, .bool false]))) := Lib.hid (.inr ⟨fun p hp => HP.out p hp (hl _), rfl⟩)
      clear hl
      go_wp2
      go_ret2
      exact ⟨HE.out, HB.out⟩
    · intro pk pn w1 cnt1 hp hrg1 hlt hgr hen
      have HB1 : Hid (Below w.heap.size w w1) := Lib.hid (HB.out.grown hgr HB.out.size (fun k hk => by cases hk; exact Nat.le_refl _))
      have HM := Lib.hid (show w1.rangeLeft b w.heap.size < wr.rangeLeft b w.heap.size by rw [hrg1.left_eq, hrg.left_eq]; exact hlt)
      have HRG := Lib.hid hrg1
      clear hgr hlt hrg hrg1
      by_cases hq : pn = n
      · have hqd : ((pn : Int) == (n : Int)) = true := eqN hq
        have HE : Hid (NameEnd T n (.returned (.tuple #[.string pk, .bool true]))) := Lib.hid (.inl ⟨(pk, pn), hp, hq, rfl⟩)
        clear hq hp
        go_wp2
        go_ret2
        exact ⟨HE.out, HB1.out⟩
      · have hqd : ((pn : Int) == (n : Int)) = false := neN hq
        have HP1 := Lib.hid (past_step HTG.out HP.out hp hq)
        clear hq hp
        go_wp2
        go_roundw
        case rel => exact ⟨_, _, HRG.out, HB1.out, HP1.out⟩
        case measure => exact HM.out
theorem nameOf_any {T : Tbl} (hT : tblGood T = true) (v : Value) (n : Nat) (w : World) (hv : MAt w v T) :
    Calls Tryd.prog 21 #[v, .int .u32 n] w fun e w' => NameEnd T n e ∧ Below w.heap.size w w' := by
  rcases hv with ⟨rfl, rfl⟩ | ⟨b, rfl, h⟩
  · refine (nameOf_nil n w).mono ?_
    rintro e w' ⟨rfl, hb⟩
    exact ⟨.inr ⟨by simp, rfl⟩, hb⟩
  · exact nameOf_some hT b n w h
theorem textOf_any {T : Tbl} (hT : tblGood T = true) (v : Value) (n : Nat) (w : World) (hn : n < 4294967296) (hv : MAt w v T) (ht : Tab w) :
    Calls Tryd.prog 25 #[v, .int .u32 n] w fun e w' => e = .returned (.string (textN T n)) ∧ Below w.heap.size w w' := by
  have HV := Lib.hid hv
  have HT := Lib.hid hT
  have HTab := Lib.hid ht
  clear hv hT ht
  go_enter Tryd.func25, Tryd.ntmps25
  go_wp2_with fail
  refine (nameOf_any HT.out v n _ HV.out).mono ?_
  rintro e w1 ⟨hE, hb1⟩
  have HB1 := Lib.hid hb1
  have HE := Lib.hid hE
  clear hb1 hE
  rcases HE.out with ⟨p, hp, hq, rfl⟩ | ⟨hno, rfl⟩
  · have HR : Hid (textN T n = p.1) := Lib.hid (by rw [← hq]; exact textN_of HT.out hp)
    clear hp hq HE
    go_wp2_with fail
    go_ret
    exact ⟨by rw [HR.out]; rfl, HB1.out⟩
  · have HR : Hid (textN T n = Wd.txt n) := Lib.hid (by
      rcases textN_is T n with ⟨p, hp, hq, _⟩ | ⟨_, h⟩
      · exact absurd hq (hno p hp)
      · exact h)
    clear hno HE
    go_wp2_with fail
    refine (text_any n _ (by omega) (HTab.out.below HB1.out)).mono ?_
    rintro e w2 ⟨rfl, hb2⟩
    have HB2 := Lib.hid (below2 HB1.out hb2)
    clear hb2
    go_wp2_with fail
    go_ret
    exact ⟨by rw [HR.out]; rfl, HB2.out⟩
/-- What the reading of a name ends with. -/
def PNEnd (T : Tbl) (s : ByteArray) (e : Ending) : Prop := ∃ o : Option Nat, readN T s o ∧ e = .returned (.tuple #[.int .u32 (o.getD 0 : Nat), .int .i64 (if o.isSome then 0 else 2)])
theorem pnEnd_some {T : Tbl} {s : ByteArray} {n : Nat} (h : readN T s (some n)) : PNEnd T s (.returned (.tuple #[.int .u32 (n : Nat), .int .i64 0])) := ⟨some n, h, rfl⟩
theorem pnEnd_none {T : Tbl} {s : ByteArray} (h : readN T s none) : PNEnd T s (.returned (.tuple #[.int .u32 0, .int .i64 2])) := ⟨none, h, rfl⟩
theorem pn_letters {T : Tbl} {s : ByteArray} {e : Ending} (h : PNEnd T s e) : ∃ x c : Int, e = .returned (.tuple #[.int .u32 x, .int .i64 c]) ∧ Hid (PNEnd T s (.returned (.tuple #[.int .u32 x, .int .i64 c]))) := by
  obtain ⟨o, ho, rfl⟩ := h
  exact ⟨_, _, rfl, Lib.hid ⟨o, ho, rfl⟩⟩
set_option maxHeartbeats 2000000 in
theorem nread_any {T : Tbl} (hT : tblGood T = true) (v : Value) (s : ByteArray) (w : World) (hs : s.size ≤ 4611686018427387904) (hv : MAt w v T) :
    Calls Tryd.prog 31 #[v, .string s] w fun e w' => PNEnd T s e ∧ Below w.heap.size w w' := by
  have HV := Lib.hid hv
  have HT := Lib.hid hT
  by_cases hx : ∃ p ∈ T, p.1 = s
  · obtain ⟨p, hp, rfl⟩ := hx
    have hl := look_hit hT hv hp (by unfold maxLen; omega)
    have HR : Hid (readN T p.1 (some p.2)) := Lib.hid ⟨tbl_small hT hp, (textN_of hT hp).symm⟩
    clear hv hT hp
    go_enter Tryd.func31, Tryd.ntmps31
    go_wp2_with fail
    go_ret2
    exact ⟨pnEnd_some HR.out, Below.refl _ _⟩
  · have hno : ∀ p ∈ T, p.1 ≠ s := fun p hp e => hx ⟨p, hp, e⟩
    have hl := look_miss hv hno (by unfold maxLen; omega)
    have HNO := Lib.hid hno
    clear hv hT hx hno
    go_enter Tryd.func31, Tryd.ntmps31
    go_wp2_with fail
    refine (parse_any s _ hs).mono ?_
    rintro e w1 ⟨hE, hb1⟩
    have HB1 := Lib.hid hb1
    have HV1 := Lib.hid (HV.out.below hb1)
    clear hb1 hl
    rcases hE with ⟨n, hn, he, rfl⟩ | ⟨hn, rfl⟩
    · have HS := Lib.hid he
      clear he
      by_cases hm : n < 4294967296
      · have hmd : decide (4294967295 < (n : Int)) = false := by simp; omega
        have hm2 : ¬ 4294967295 < (n : Int) := by omega
        have hwr : IntKind.u32.wrap (n : Int) = (n : Int) := by unfold IntKind.wrap; simp [IntKind.bits, IntKind.signed]; omega
        go_wp2_with fail
        refine (nameOf_any HT.out v n _ HV1.out).mono ?_
        rintro e w2 ⟨hE, hb2⟩
        have HB2 := Lib.hid (below2 HB1.out hb2)
        clear hb2
        rcases hE with ⟨p, hp, hq, rfl⟩ | ⟨hnn, rfl⟩
        · have HR : Hid (readN T s none) := Lib.hid (readN_no HNO.out (fun k _ e e2 => by
            have : n = k := Wd.txt_inj (HS.out.symm.trans e)
            subst this
            rw [← hq, textN_of HT.out hp] at e2
            exact HNO.out p hp e2))
          clear hp hq
          go_wp2_with fail
          go_ret2
          exact ⟨pnEnd_none HR.out, HB2.out⟩
        · have HR : Hid (readN T s (some n)) := Lib.hid ⟨hm, by
            rcases textN_is T n with ⟨p, hp, hq, _⟩ | ⟨_, h⟩
            · exact absurd hq (hnn p hp)
            · rw [h]; exact HS.out⟩
          clear hnn
          go_wp2_with fail
          go_ret2
          exact ⟨pnEnd_some HR.out, HB2.out⟩
      · have hm2 : 4294967295 < (n : Int) := by omega
        have HR : Hid (readN T s none) := Lib.hid (readN_no HNO.out (fun k hk e _ => by
          have : n = k := Wd.txt_inj (HS.out.symm.trans e)
          omega))
        go_wp2_with fail
        go_ret2
        exact ⟨pnEnd_none HR.out, HB1.out⟩
    · have HR : Hid (readN T s none) := Lib.hid (readN_no HNO.out (fun k hk e _ => hn k (by omega) e))
      clear hn
      go_wp2_with fail
      go_ret2
      exact ⟨pnEnd_none HR.out, HB1.out⟩
/-! ### Machines and calls -/
theorem nmachine_any (n : Nat) (w : World) (hn : n < 4294967296) (ht : Tab w) :
    Calls Tryd.prog 10 #[.int .u32 n] w fun e w' => e = .returned (.string (textN machT n)) ∧ Below w.heap.size w w' := by
  have HTab := Lib.hid ht
  clear ht
  go_enter Tryd.func10, Tryd.ntmps10
  go_wp2_with fail
  refine (machines_any _).mono ?_
  rintro e w1 ⟨v, rfl, hm, hb1⟩
  have HM := Lib.hid hm
  have HB1 := Lib.hid hb1
  clear hm hb1
  go_wp2_with fail
  refine (textOf_any machT_good v n _ hn HM.out (HTab.out.below HB1.out)).mono ?_
  rintro e w2 ⟨rfl, hb2⟩
  have HB2 := Lib.hid (below2 HB1.out hb2)
  clear hb2
  go_wp2_with fail
  go_ret
  exact ⟨rfl, HB2.out⟩
theorem ncall_any (m n : Nat) (w : World) (_hm : m < 4294967296) (hn : n < 4294967296) (ht : Tab w) :
    Calls Tryd.prog 12 #[.int .u32 m, .int .u32 n] w fun e w' => e = .returned (.string (textN (callT m) n)) ∧ Below w.heap.size w w' := by
  have HTab := Lib.hid ht
  clear ht
  go_enter Tryd.func12, Tryd.ntmps12
  go_wp2_with fail
  refine (calls_any m _).mono ?_
  rintro e w1 ⟨v, rfl, hm, hb1⟩
  have HM := Lib.hid hm
  have HB1 := Lib.hid hb1
  clear hm hb1
  go_wp2_with fail
  refine (textOf_any (callT_good m) v n _ hn HM.out (HTab.out.below HB1.out)).mono ?_
  rintro e w2 ⟨rfl, hb2⟩
  have HB2 := Lib.hid (below2 HB1.out hb2)
  clear hb2
  go_wp2_with fail
  go_ret
  exact ⟨rfl, HB2.out⟩
theorem nreadmachine_any (s : ByteArray) (w : World) (hs : s.size ≤ 4611686018427387904) (_ht : Tab w) :
    Calls Tryd.prog 15 #[.string s] w fun e w' => PNEnd machT s e ∧ Below w.heap.size w w' := by
  go_enter Tryd.func15, Tryd.ntmps15
  go_wp2_with fail
  refine (machines_any _).mono ?_
  rintro e w1 ⟨v, rfl, hm, hb1⟩
  have HM := Lib.hid hm
  have HB1 := Lib.hid hb1
  clear hm hb1
  go_wp2_with fail
  refine (nread_any machT_good v s _ hs HM.out).mono ?_
  rintro e w2 ⟨hE, hb2⟩
  obtain ⟨x, c, rfl, HO⟩ := pn_letters hE
  have HB2 := Lib.hid (below2 HB1.out hb2)
  clear hb2 hE
  go_wp2_with fail
  go_ret2
  exact ⟨HO.out, HB2.out⟩
theorem nreadcall_any (m : Nat) (s : ByteArray) (w : World) (_hm : m < 4294967296) (hs : s.size ≤ 4611686018427387904) (_ht : Tab w) :
    Calls Tryd.prog 17 #[.int .u32 m, .string s] w fun e w' => PNEnd (callT m) s e ∧ Below w.heap.size w w' := by
  go_enter Tryd.func17, Tryd.ntmps17
  go_wp2_with fail
  refine (calls_any m _).mono ?_
  rintro e w1 ⟨v, rfl, hm, hb1⟩
  have HM := Lib.hid hm
  have HB1 := Lib.hid hb1
  clear hm hb1
  go_wp2_with fail
  refine (nread_any (callT_good m) v s _ hs HM.out).mono ?_
  rintro e w2 ⟨hE, hb2⟩
  obtain ⟨x, c, rfl, HO⟩ := pn_letters hE
  have HB2 := Lib.hid (below2 HB1.out hb2)
  clear hb2 hE
  go_wp2_with fail
  go_ret2
  exact ⟨HO.out, HB2.out⟩
/-! ### Actions -/
theorem act_named {v : Nat} {p : ByteArray × Nat} (hp : p ∈ actTab) (hv : p.2 = v) : actT v = some p.1 := by
  subst hv
  unfold actTab at hp
  simp only [List.mem_cons, List.not_mem_nil, or_false] at hp
  unfold actT
  rcases hp with rfl | rfl | rfl | rfl
  · show (if 327680 ≤ 0 ∧ 0 ≤ 331775 then _ else _) = _
    rw [if_neg (by omega), if_pos rfl]
  · show (if 327680 ≤ 196608 ∧ 196608 ≤ 331775 then _ else _) = _
    rw [if_neg (by omega), if_neg (by decide), if_pos rfl]
  · show (if 327680 ≤ 2147221504 ∧ 2147221504 ≤ 331775 then _ else _) = _
    rw [if_neg (by omega), if_neg (by decide), if_neg (by decide), if_pos rfl]
  · show (if 327680 ≤ 2147418112 ∧ 2147418112 ≤ 331775 then _ else _) = _
    rw [if_neg (by omega), if_neg (by decide), if_neg (by decide), if_neg (by decide), if_pos rfl]
theorem act_unnamed {v : Nat} (h : ∀ p ∈ actTab, p.2 ≠ v) : actT v = if 327680 ≤ v ∧ v ≤ 331775 then some (berror ++ Wd.txt (v - 327680)) else none := by
  have h0 : v ≠ 0 := fun e => h (bkillA, 0) (by unfold actTab; simp) e.symm
  have h1 : v ≠ 196608 := fun e => h (btrap, 196608) (by unfold actTab; simp) e.symm
  have h2 : v ≠ 2147221504 := fun e => h (blog, 2147221504) (by unfold actTab; simp) e.symm
  have h3 : v ≠ 2147418112 := fun e => h (ballow, 2147418112) (by unfold actTab; simp) e.symm
  unfold actT
  rw [if_neg h0, if_neg h1, if_neg h2, if_neg h3]
/-- What an action's text ends with. -/
def ActEnd (v : Nat) (e : Ending) : Prop := e = .returned (.tuple #[.string (actS v), .int .i64 (if (actT v).isSome then 0 else 1)])
theorem actEnd_some {v : Nat} {s : ByteArray} (h : actT v = some s) : ActEnd v (.returned (.tuple #[.string s, .int .i64 0])) := by
  unfold ActEnd actS
  rw [h]
  rfl
theorem actEnd_none {v : Nat} (h : actT v = none) : ActEnd v (.returned (.tuple #[.string ⟨#[]⟩, .int .i64 1])) := by
  unfold ActEnd actS
  rw [h]
  rfl
set_option maxRecDepth 100000 in
set_option maxHeartbeats 2000000 in
theorem naction_gen (v : Nat) (w : World) (hv : v < 4294967296) (ht : Tab w) (E : Ending → Prop) (hE1 : ∀ s, actT v = some s → E (.returned (.tuple #[.string s, .int .i64 0]))) (hE2 : actT v = none → E (.returned (.tuple #[.string ⟨#[]⟩, .int .i64 1]))) :
    Calls Tryd.prog 8 #[.int .u32 v] w fun e w' => E e ∧ Below w.heap.size w w' := by
  have HE1 := Lib.hid hE1
  have HE2 := Lib.hid hE2
  clear hE1 hE2
  have HTab := Lib.hid ht
  clear ht
  go_enter Tryd.func8, Tryd.ntmps8
  go_wp2_with fail
  refine (actions_any _).mono ?_
  rintro e w1 ⟨t, rfl, hm, hb1⟩
  have HM := Lib.hid hm
  have HB1 := Lib.hid hb1
  clear hm hb1
  go_wp2_with fail
  refine (nameOf_any actTab_good t v _ HM.out).mono ?_
  rintro e w2 ⟨hE, hb2⟩
  have HB2 := Lib.hid (below2 HB1.out hb2)
  clear hb2
  rcases hE with ⟨p, hp, hq, rfl⟩ | ⟨hno, rfl⟩
  · have HR := Lib.hid (HE1.out _ (act_named hp hq))
    clear hp hq
    go_wp2_with fail
    go_ret2
    exact ⟨HR.out, HB2.out⟩
  · have HA := Lib.hid (act_unnamed hno)
    clear hno
    by_cases h1 : v < 327680
    · have d1 : decide ((v : Int) < 327680) = true := by simp; omega
      have HR := Lib.hid (HE2.out (by rw [HA.out, if_neg (by omega)]))
      clear h1 HE1 HE2 HA
      generalize (v : Int) = A at d1 ⊢
      go_wp2_with fail
      go_ret2
      exact ⟨HR.out, HB2.out⟩
    by_cases h2 : 331775 < v
    · have d1 : decide ((v : Int) < 327680) = false := by simp; omega
      have d2 : decide ((331775 : Int) < (v : Int)) = true := by simp; omega
      have HR := Lib.hid (HE2.out (by rw [HA.out, if_neg (by omega)]))
      clear h1 h2 HE1 HE2 HA
      generalize (v : Int) = A at d1 d2 ⊢
      go_wp2_with fail
      go_ret2
      exact ⟨HR.out, HB2.out⟩
    · obtain ⟨m, hm⟩ : ∃ m, v = 327680 + m := ⟨v - 327680, by omega⟩
      have HR := Lib.hid (HE1.out _ (by rw [HA.out, if_pos (by omega)]))
      rw [show v - 327680 = m by omega, show berror = ⟨#[101, 114, 114, 111, 114, 58]⟩ from rfl] at HR
      have HT : Hid (Calls Tryd.prog 23 #[.int .u64 (m : Nat)] w2 fun e w' => e = .returned (.string (Wd.txt m)) ∧ Below w2.heap.size w2 w') := Lib.hid (text_any m w2 (by omega) (HTab.out.below HB2.out))
      have hz := txt_lt18 (n := m) (by omega)
      have hzE : (⟨#[101, 114, 114, 111, 114, 58]⟩ : ByteArray).size = 6 := rfl
      have l1 : ¬ (v : Int) < 327680 := by omega
      have l2 : ¬ (331775 : Int) < (v : Int) := by omega
      have l3 : IntKind.u32.wrap ((v : Int) - 327680) = (m : Int) := by unfold IntKind.wrap; simp [IntKind.bits, IntKind.signed]; omega
      have hml : m < 4096 := by omega
      clear h1 h2 HE1 HE2 HA hm
      generalize (v : Int) = A at l1 l2 l3 ⊢
      generalize Wd.txt m = TX at HT HR hz
      go_wp2_with fail
      refine HT.out.mono ?_
      rintro e w3 ⟨rfl, hb3⟩
      have HB3 := Lib.hid (below2 HB2.out hb3)
      clear hb3
      go_wp2_with fail
      go_ret2
      exact ⟨HR.out, HB3.out⟩
theorem naction_end (v : Nat) (w : World) (hv : v < 4294967296) (ht : Tab w) :
    Calls Tryd.prog 8 #[.int .u32 v] w fun e w' => ActEnd v e ∧ Below w.heap.size w w' := naction_gen v w hv ht (ActEnd v) (fun _ h => actEnd_some h) actEnd_none
theorem naction_any (v : Nat) (w : World) (hv : v < 4294967296) (ht : Tab w) :
    Calls Tryd.prog 8 #[.int .u32 v] w fun e w' => e = .returned (.tuple #[.string (actS v), .int .i64 (if (actT v).isSome then 0 else 1)]) ∧ Below w.heap.size w w' := naction_end v w hv ht
/-! ### What is read of an action's text -/
theorem hasPrefix_yes (p r : ByteArray) (w : World) (_hz : (p ++ r).size ≤ 4611686018427387904) :
    Calls Tryd.prog 41 #[.string (p ++ r), .string p] w fun e w' => e = .returned (.bool true) ∧ w' = w := by
  have hs : (p ++ r).size = p.size + r.size := ByteArray.size_append
  have h1 : decide ((p.size : Int) ≤ ((p ++ r).size : Int)) = true := by simp; omega
  have h2 : (p ++ r).extract 0 p.size = p := by
    apply ByteArray.ext
    simp
  have h3 : (((p ++ r).extract 0 p.size).toList == p.toList) = true := by rw [h2]; exact beq_self_eq_true _
  go_enter Tryd.func41, Tryd.ntmps41
  go_wp2_with fail
  go_ret
  exact ⟨rfl, rfl⟩
theorem hasPrefix_no (s p : ByteArray) (w : World) (hno : ∀ r, s ≠ p ++ r) :
    Calls Tryd.prog 41 #[.string s, .string p] w fun e w' => e = .returned (.bool false) ∧ w' = w := by
  by_cases hl : p.size ≤ s.size
  · have h1 : decide ((p.size : Int) ≤ (s.size : Int)) = true := by simp; omega
    have h3 : ((s.extract 0 p.size).toList == p.toList) = false := by
      refine beq_ne fun e => hno (s.extract p.size s.size) ?_
      have e2 : s.extract 0 p.size ++ s.extract p.size s.size = s := by
        apply ByteArray.ext
        apply Array.ext'
        simp
      rw [e] at e2
      exact e2.symm
    clear hno
    go_enter Tryd.func41, Tryd.ntmps41
    go_wp2_with fail
    go_ret
    exact ⟨rfl, rfl⟩
  · have h1 : decide ((p.size : Int) ≤ (s.size : Int)) = false := by simp; omega
    clear hno
    go_enter Tryd.func41, Tryd.ntmps41
    go_wp2_with fail
    go_ret
    exact ⟨rfl, rfl⟩
theorem cutLite_yes (p r : ByteArray) (w : World) (hz : (p ++ r).size ≤ 4611686018427387904) :
    Calls Tryd.prog 38 #[.string (p ++ r), .string p] w fun e w' => e = .returned (.tuple #[.string r, .bool true]) ∧ w' = w := by
  have HP := Lib.hid (hasPrefix_yes p r w hz)
  have hs : (p ++ r).size = p.size + r.size := ByteArray.size_append
  have h2 : (p ++ r).extract p.size (p ++ r).size = r := by
    apply ByteArray.ext
    simp [hs]
    rw [Array.extract_empty_of_size_le_start (by show p.data.size ≤ p.data.size; omega)]
    show #[] ++ r.data.extract 0 r.data.size = r.data
    simp
  have h2' : (p ++ r).extract p.size (p.size + r.size) = r := by rw [← hs]; exact h2
  have hl : p.size ≤ (p ++ r).size := by omega
  go_enter Tryd.func38, Tryd.ntmps38
  go_wp2_with fail
  refine HP.out.mono ?_
  rintro e w1 ⟨rfl, rfl⟩
  go_wp2_with fail
  go_ret2
  exact ⟨rfl, rfl⟩
theorem cutLite_no (s p : ByteArray) (w : World) (hno : ∀ r, s ≠ p ++ r) :
    Calls Tryd.prog 38 #[.string s, .string p] w fun e w' => e = .returned (.tuple #[.string s, .bool false]) ∧ w' = w := by
  have HP := Lib.hid (hasPrefix_no s p w hno)
  clear hno
  go_enter Tryd.func38, Tryd.ntmps38
  go_wp2_with fail
  refine HP.out.mono ?_
  rintro e w1 ⟨rfl, rfl⟩
  go_wp2_with fail
  go_ret2
  exact ⟨rfl, rfl⟩
theorem cutPrefix_yes (p r : ByteArray) (w : World) (hz : (p ++ r).size ≤ 4611686018427387904) :
    Calls Tryd.prog 33 #[.string (p ++ r), .string p] w fun e w' => e = .returned (.tuple #[.string r, .bool true]) ∧ w' = w := by
  have HP := Lib.hid (cutLite_yes p r w hz)
  go_enter Tryd.func33, Tryd.ntmps33
  go_wp2_with fail
  refine HP.out.mono ?_
  rintro e w1 ⟨rfl, rfl⟩
  go_wp2_with fail
  go_ret2
  exact ⟨rfl, rfl⟩
theorem cutPrefix_no (s p : ByteArray) (w : World) (hno : ∀ r, s ≠ p ++ r) :
    Calls Tryd.prog 33 #[.string s, .string p] w fun e w' => e = .returned (.tuple #[.string s, .bool false]) ∧ w' = w := by
  have HP := Lib.hid (cutLite_no s p w hno)
  clear hno
  go_enter Tryd.func33, Tryd.ntmps33
  go_wp2_with fail
  refine HP.out.mono ?_
  rintro e w1 ⟨rfl, rfl⟩
  go_wp2_with fail
  go_ret2
  exact ⟨rfl, rfl⟩
/-- What the reading of an action ends with. -/
def PAEnd (s : ByteArray) (e : Ending) : Prop := ∃ o : Option Nat, readA s o ∧ e = .returned (.tuple #[.int .u32 (o.getD 0 : Nat), .int .i64 (if o.isSome then 0 else 2)])
theorem paEnd_some {s : ByteArray} {n : Nat} (h : readA s (some n)) : PAEnd s (.returned (.tuple #[.int .u32 (n : Nat), .int .i64 0])) := ⟨some n, h, rfl⟩
theorem paEnd_none {s : ByteArray} (h : readA s none) : PAEnd s (.returned (.tuple #[.int .u32 0, .int .i64 2])) := ⟨none, h, rfl⟩
theorem act_none {s : ByteArray} (h1 : ∀ p ∈ actTab, p.1 ≠ s) (h2 : ∀ n, n < 4096 → s ≠ berror ++ Wd.txt n) : readA s none := by
  intro v _ e
  rcases actT_some e with ⟨n, hn, _, e2⟩ | ⟨_, e2⟩ | ⟨_, e2⟩ | ⟨_, e2⟩ | ⟨_, e2⟩
  · exact h2 n hn e2
  · exact h1 (bkillA, 0) (by unfold actTab; simp) e2.symm
  · exact h1 (btrap, 196608) (by unfold actTab; simp) e2.symm
  · exact h1 (blog, 2147221504) (by unfold actTab; simp) e2.symm
  · exact h1 (ballow, 2147418112) (by unfold actTab; simp) e2.symm
theorem app_inj {p a b : ByteArray} (h : p ++ a = p ++ b) : a = b := by
  have e := congrArg (fun x : ByteArray => x.data.toList) h
  simp only [ByteArray.data_append, Array.toList_append] at e
  exact ByteArray.ext (Array.ext' (List.append_cancel_left e))
theorem act_err {n : Nat} (h : n < 4096) : actT (327680 + n) = some (berror ++ Wd.txt n) := by
  have e : actT (327680 + n) = some (berror ++ Wd.txt (327680 + n - 327680)) := by
    unfold actT
    rw [if_pos ⟨by omega, by omega⟩]
  rw [e, show 327680 + n - 327680 = n by omega]
theorem act_small {p : ByteArray × Nat} (hp : p ∈ actTab) : p.1.size ≤ 100 := by
  unfold actTab at hp
  simp only [List.mem_cons, List.not_mem_nil, or_false] at hp
  rcases hp with rfl | rfl | rfl | rfl <;> decide
set_option maxHeartbeats 2000000 in
theorem nreadaction_any (s : ByteArray) (w : World) (hs : s.size ≤ 4611686018427387904) (_ht : Tab w) :
    Calls Tryd.prog 19 #[.string s] w fun e w' => PAEnd s e ∧ Below w.heap.size w w' := by
  have HS := Lib.hid hs
  by_cases hx : ∃ p ∈ actTab, p.1 = s
  · obtain ⟨p, hp, rfl⟩ := hx
    have HL : Hid (∀ (V : World) (v : Value), MAt V v actTab → (Instr.lookup 40 v (.string p.1) true).run Tryd.prog V = .ok (.tuple #[.int .u32 (p.2 : Nat), .bool true]) V) := Lib.hid (fun V v h => look_hit actTab_good h hp (by unfold maxLen; omega))
    have HR := Lib.hid (paEnd_some (s := p.1) ⟨tbl_small actTab_good hp, act_named hp rfl⟩)
    clear hs hp
    go_enter Tryd.func19, Tryd.ntmps19
    go_wp2_with fail
    refine (actions_any _).mono ?_
    rintro e w1 ⟨v, rfl, hm, hb1⟩
    have hl := HL.out _ _ hm
    have HB1 := Lib.hid hb1
    clear hm hb1
    go_wp2_with fail
    go_ret2
    exact ⟨HR.out, HB1.out⟩
  · have hno : ∀ p ∈ actTab, p.1 ≠ s := fun p hp e => hx ⟨p, hp, e⟩
    have HL : Hid (∀ (V : World) (v : Value), MAt V v actTab → (Instr.lookup 40 v (.string s) true).run Tryd.prog V = .ok (.tuple #[.int .u32 0, .bool false]) V) := Lib.hid (fun V v h => look_miss h hno (by unfold maxLen; omega))
    have HNO := Lib.hid hno
    clear hx hno hs
    go_enter Tryd.func19, Tryd.ntmps19
    go_wp2_with fail
    refine (actions_any _).mono ?_
    rintro e w1 ⟨v, rfl, hm, hb1⟩
    have hl := HL.out _ _ hm
    have HB1 := Lib.hid hb1
    clear hm hb1
    by_cases hpre : ∃ r, s = berror ++ r
    · obtain ⟨r, hr⟩ := hpre
      have HC : Hid (∀ V : World, Calls Tryd.prog 33 #[.string s, .string ⟨#[101, 114, 114, 111, 114, 58]⟩] V fun e w' => e = .returned (.tuple #[.string r, .bool true]) ∧ w' = V) := Lib.hid (fun V => by
        have := cutPrefix_yes berror r V (by rw [← hr]; exact HS.out)
        rw [← hr] at this
        exact this)
      have HZ : Hid (r.size ≤ 4611686018427387904) := Lib.hid (by
        have := HS.out
        rw [hr, ByteArray.size_append] at this
        omega)
      have HRS := Lib.hid hr
      clear hr
      go_wp2_with fail
      refine (HC.out _).mono ?_
      rintro e w2 ⟨rfl, rfl⟩
      clear hl
      go_wp2_with fail
      refine (parse_any r _ HZ.out).mono ?_
      rintro e w3 ⟨hE, hb3⟩
      have HB3 := Lib.hid (below2 HB1.out hb3)
      clear hb3
      rcases hE with ⟨n, hn, he, rfl⟩ | ⟨hn, rfl⟩
      · have HT := Lib.hid he
        clear he
        by_cases hm : n < 4096
        · have hm2 : ¬ 4095 < (n : Int) := by omega
          have hwr : IntKind.u32.wrap (n : Int) = (n : Int) := by unfold IntKind.wrap; simp [IntKind.bits, IntKind.signed]; omega
          have hwr2 : IntKind.u32.wrap (327680 + (n : Int)) = ((327680 + n : Nat) : Int) := by unfold IntKind.wrap; simp [IntKind.bits, IntKind.signed]; omega
          have HR := Lib.hid (paEnd_some (s := s) (n := 327680 + n) ⟨by omega, by rw [HRS.out, HT.out]; exact act_err hm⟩)
          obtain ⟨f, hf⟩ : ∃ f, f = 327680 + n := ⟨_, rfl⟩
          rw [← hf] at hwr2 HR
          clear hf
          go_wp2_with fail
          go_ret2
          exact ⟨HR.out, HB3.out⟩
        · have hm2 : 4095 < (n : Int) := by omega
          have HR := Lib.hid (paEnd_none (act_none HNO.out (fun k hk e => by
            rw [HRS.out, HT.out] at e
            have : n = k := err_inj e
            omega)))
          go_wp2_with fail
          go_ret2
          exact ⟨HR.out, HB3.out⟩
      · have HR := Lib.hid (paEnd_none (act_none HNO.out (fun k hk e => by
          rw [HRS.out] at e
          exact hn k (by omega) (app_inj e))))
        clear hn
        go_wp2_with fail
        go_ret2
        exact ⟨HR.out, HB3.out⟩
    · have hno : ∀ r, s ≠ berror ++ r := fun r e => hpre ⟨r, e⟩
      have HC : Hid (∀ V : World, Calls Tryd.prog 33 #[.string s, .string ⟨#[101, 114, 114, 111, 114, 58]⟩] V fun e w' => e = .returned (.tuple #[.string s, .bool false]) ∧ w' = V) := Lib.hid (fun V => cutPrefix_no s berror V hno)
      have HR := Lib.hid (paEnd_none (act_none HNO.out (fun k _ e => hno _ e)))
      clear hpre hno
      go_wp2_with fail
      refine (HC.out _).mono ?_
      rintro e w2 ⟨rfl, rfl⟩
      clear hl
      go_wp2_with fail
      refine (parse_any s _ HS.out).mono ?_
      rintro e w3 ⟨hE, hb3⟩
      have HB3 := Lib.hid (below2 HB1.out hb3)
      clear hb3
      obtain ⟨x, c, rfl⟩ : ∃ x c : Int, e = .returned (.tuple #[.int .u64 x, .int .i64 c]) := by
        rcases hE with ⟨n, _, _, rfl⟩ | ⟨_, rfl⟩
        · exact ⟨_, _, rfl⟩
        · exact ⟨_, _, rfl⟩
      clear hE
      go_wp2_with fail
      go_ret2
      exact ⟨HR.out, HB3.out⟩
end Go.Proofs.YtmijnhcbbklmaaaDoor
