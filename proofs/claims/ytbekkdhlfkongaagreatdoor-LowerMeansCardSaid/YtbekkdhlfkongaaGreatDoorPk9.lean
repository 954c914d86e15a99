/-
  What the laws' texts use, joined.
-/
import Derived.Test.YtbekkdhlfkongaaGreatDoorProg
import Derived.WalkKit
import Derived.ProofKit
import Derived.Lib.Hide
import Derived.Laws.Rows
import Derived.Laws.ResultCell
import Derived.Laws.Entries
import Derived.Handy
import Derived.OwnWalk
import Derived.Laws.OwnMore
import Derived.Deep.Draws
import Derived.Laws.IdiomStrings
import Derived.Lib.BufferRead
import Derived.Maps.OwnSet
import Derived.Laws.BitsAllLaws
import Derived.RowKit
import Derived.Lib.QuietBelow
import Derived.Lib.OthersKept
import Derived.BigQuiet
import Derived.IntWalk
import Derived.Deep.RegionHeld3
import Derived.BigRegion
import Derived.Laws.Tables
import Derived.Deep.DeepCutAuto
import Derived.Deep.QuietTactic
import Derived.Test.YtbekkdhlfkongaaGreatDoorRows
import Derived.OpenShut
import Derived.Carry
import Derived.Deep.DeepHandedRow
import Derived.Lib.SmallJoins
import Derived.WalkMore
import Derived.Shelf.Strings.Builder1
import Derived.Shelf.Strings.Search1
import Derived.Lib.IndexLaws
import Derived.Lib.AppendZerosOnto
import Derived.Lib.SliceRun
import Derived.Deep.RegionWith
import Derived.Deep.Cut
import Derived.Deep.Slices
import Derived.RangeFuncNested
import Derived.RangeFuncBound
import Derived.RangeFuncCalls
import Derived.RangeFuncLeaves
import Derived.Shelf.Abstract
import Derived.Shelf.RegionOpen
import Derived.OwnWalkIn
import Derived.TacticsInMore
import Derived.LoopNIn
import Derived.LoopIn
import Derived.Sort.MapsRangeIn
import Derived.Sort.KeysCollected
import Derived.Maps.AppendAt
import Derived.RangeFuncBox
import Derived.RangeFuncFrom
import Derived.RangeFuncSeq
import Derived.Sort.WalkA
import Derived.CellFam
import Derived.Sort.WalkC
import Derived.Sort.LotC
import Derived.Deep.CutBlock
import Derived.Deep.LoopGhost
import Derived.Sort.WalkC4
import Derived.Sort.WalkA6
import Derived.Laws.Closers25b
import Derived.Laws.Bits64b
import Derived.Sort.WalkB2
import Derived.Sort.WalkB3
import Derived.Sort.LotB
import Derived.Sort.LotD3
import Derived.Test.YtbekkdhlfkongaaGreatDoorPk1
import Derived.Test.YtbekkdhlfkongaaGreatDoorPk2
import Derived.Test.YtbekkdhlfkongaaGreatDoorPk3
import Derived.Test.YtbekkdhlfkongaaGreatDoorPk4
import Derived.Test.YtbekkdhlfkongaaGreatDoorPk5
import Derived.Test.YtbekkdhlfkongaaGreatDoorPk6
import Derived.Test.YtbekkdhlfkongaaGreatDoorPk7
import Derived.Test.YtbekkdhlfkongaaGreatDoorPk8
/-
  A policy's filter, plainly: it does what the policy says; how long it is.
-/
namespace Go.Proofs.YtbekkdhlfkongaaGreatDoor
open Go.RowKit
set_option maxRecDepth 20000

/-! ### What it says -/
theorem judgeC_filter (rs : List Rl) (df : Nat) (d : Rec) : judgeC ((rs.filter (fun x => x.arch == d.arch)).filter (fun x => x.nr == d.nr)) df d = judgeR rs df d := by
  induction rs with
  | nil => rfl
  | cons x rs ih =>
    rw [judgeR]
    by_cases ha : x.arch = d.arch
    · have ha' : (x.arch == d.arch) = true := by simpa using ha
      rw [List.filter_cons_of_pos (by exact ha')]
      by_cases hn : x.nr = d.nr
      · have hn' : (x.nr == d.nr) = true := by simpa using hn
        rw [List.filter_cons_of_pos (by exact hn'), judgeC, ih]
        unfold fitsR
        rw [decide_eq_true ha, decide_eq_true hn]
        rfl
      · rw [List.filter_cons_of_neg (by simpa using hn), ih]
        unfold fitsR
        rw [decide_eq_false hn, Bool.and_false]
        rfl
    · rw [List.filter_cons_of_neg (by simpa using ha), ih]
      unfold fitsR
      rw [decide_eq_false ha]
      rfl
theorem callV_keys (rs : List Rl) (df : Nat) (d : Rec) : ∀ ks : List Nat, callV (ks.map (fun n => (n, rs.filter (fun x => x.nr == n)))) df d = if d.nr ∈ ks then judgeC (rs.filter (fun x => x.nr == d.nr)) df d else df
  | [] => by simp [callV]
  | k :: ks => by
    rw [List.map_cons, callV, callV_keys rs df d ks]
    by_cases h : d.nr = k
    · subst h
      simp
    · simp [h]
theorem judgeC_nil {rs : List Rl} {df : Nat} {d : Rec} (h : rs = []) : judgeC rs df d = df := by rw [h]; rfl
theorem callV_groups (rs : List Rl) (df : Nat) (d : Rec) : callV (groupsOf Rl.nr rs) df d = judgeC (rs.filter (fun x => x.nr == d.nr)) df d := by
  unfold groupsOf
  rw [callV_keys]
  split
  · rfl
  · rename_i h
    rw [judgeC_nil]
    rw [mem_keysOf, List.mem_map] at h
    rw [List.filter_eq_nil_iff]
    intro x hx hn
    exact h ⟨x, hx, by simpa using hn⟩
theorem machV_keys (rs : List Rl) (df : Nat) (d : Rec) : ∀ ks : List Nat, machV (ks.map (fun n => (n, rs.filter (fun x => x.arch == n)))) df d = if d.arch ∈ ks then callV (groupsOf Rl.nr (rs.filter (fun x => x.arch == d.arch))) df d else df
  | [] => by simp [machV]
  | k :: ks => by
    rw [List.map_cons, machV, machV_keys rs df d ks]
    by_cases h : d.arch = k
    · subst h
      simp
    · simp [h]
theorem machV_groups (rs : List Rl) (df : Nat) (d : Rec) : machV (groupsOf Rl.arch rs) df d = judgeR rs df d := by
  unfold groupsOf
  rw [machV_keys, callV_groups, judgeC_filter]
  split
  · rfl
  · rename_i h
    rw [mem_keysOf, List.mem_map] at h
    induction rs with
    | nil => rfl
    | cons x rs ih =>
      rw [judgeR]
      have hx : fitsR x d = false := by
        unfold fitsR
        rw [decide_eq_false (fun e => h ⟨x, List.mem_cons_self, e⟩)]
        rfl
      rw [hx]
      exact ih (fun ⟨y, hy, e⟩ => h ⟨y, List.mem_cons_of_mem _ hy, e⟩)

/-! ### How long it is -/
def zsum (l : List Nat) : Nat := l.foldr (· + ·) 0
theorem zsum_perm {l m : List Nat} (h : l.Perm m) : zsum l = zsum m := by
  induction h with
  | nil => rfl
  | cons x _ ih => show x + zsum _ = x + zsum _; rw [ih]
  | swap x y l => show y + (x + zsum l) = x + (y + zsum l); omega
  | trans _ _ h1 h2 => exact h1.trans h2
theorem zsum_app (l m : List Nat) : zsum (l ++ m) = zsum l + zsum m := by
  induction l with
  | nil => show zsum m = 0 + zsum m; omega
  | cons x l ih => show x + zsum (l ++ m) = (x + zsum l) + zsum m; rw [ih]; omega
theorem zsum_one {f g : Nat → Nat} {a δ : Nat} : ∀ {l : List Nat}, l.Nodup → (∀ x ∈ l, g x = f x + if x = a then δ else 0) → zsum (l.map g) = zsum (l.map f) + if a ∈ l then δ else 0
  | [], _, _ => by simp [zsum]
  | x :: l, hn, h => by
    have ih := zsum_one (List.nodup_cons.1 hn).2 (fun y hy => h y (List.mem_cons_of_mem _ hy))
    show g x + zsum (l.map g) = (f x + zsum (l.map f)) + _
    rw [ih, h x List.mem_cons_self]
    have hx := (List.nodup_cons.1 hn).1
    by_cases e : x = a
    · subst e
      simp [hx]
      omega
    · have e' : ¬ a = x := fun h => e h.symm
      simp [e, e']
      omega
/-- A sum over the groups of rules. -/
def overG (key : Rl → Nat) (F : List Rl → Nat) (rs : List Rl) : Nat := zsum (((rs.map key).eraseDups).map (fun n => F (rs.filter (fun x => key x == n))))
theorem eraseDups_snoc (l : List Nat) (a : Nat) : (l ++ [a]).eraseDups = l.eraseDups ++ if a ∈ l then [] else [a] := by
  rw [List.eraseDups_append]
  congr 1
  by_cases h : a ∈ l
  · simp [List.removeAll, h]
  · simp [List.removeAll, h]
    rfl
theorem snoc_ind {α : Type} {P : List α → Prop} (h0 : P []) (hs : ∀ l a, P l → P (l ++ [a])) : ∀ l, P l := by
  intro l
  rw [← List.reverse_reverse l]
  induction l.reverse with
  | nil => exact h0
  | cons a l ih => rw [List.reverse_cons]; exact hs _ _ ih
theorem nodup_eraseDups (l : List Nat) : l.eraseDups.Nodup := by
  induction l using snoc_ind with
  | h0 => exact List.nodup_nil
  | hs l a ih =>
    rw [eraseDups_snoc]
    split
    · rwa [List.append_nil]
    · rename_i h
      rw [List.nodup_append]
      refine ⟨ih, by simp, fun x hx y hy e => ?_⟩
      rw [List.mem_singleton] at hy
      subst hy
      subst e
      exact h (List.mem_eraseDups.1 hx)
theorem overG_snoc {key : Rl → Nat} {F : List Rl → Nat} {δ : List Rl → Rl → Nat} (h0 : F [] = 0) (hF : ∀ l x, F (l ++ [x]) = F l + δ l x) (rs : List Rl) (x : Rl) :
    overG key F (rs ++ [x]) = overG key F rs + δ (rs.filter (fun y => key y == key x)) x := by
  unfold overG
  rw [List.map_append, List.map_cons, List.map_nil, eraseDups_snoc, List.map_append, zsum_app]
  have hfil : ∀ n, (rs ++ [x]).filter (fun y => key y == n) = rs.filter (fun y => key y == n) ++ if key x = n then [x] else [] := by
    intro n
    rw [List.filter_append]
    congr 1
    by_cases e : key x = n <;> simp [e]
  have h1 := zsum_one (f := fun n => F (rs.filter (fun y => key y == n))) (g := fun n => F ((rs ++ [x]).filter (fun y => key y == n))) (a := key x) (δ := δ (rs.filter (fun y => key y == key x)) x) (nodup_eraseDups (rs.map key)) (fun n _ => by
    show F ((rs ++ [x]).filter _) = F (rs.filter _) + _
    rw [hfil]
    by_cases e : key x = n
    · subst e
      simp [hF]
    · have e' : ¬ n = key x := fun h => e h.symm
      simp [e, e'])
  rw [h1]
  by_cases hm : key x ∈ rs.map key
  · rw [if_pos hm, if_pos (List.mem_eraseDups.2 hm)]
    rfl
  · rw [if_neg hm, if_neg (fun h => hm (List.mem_eraseDups.1 h))]
    have hnil : rs.filter (fun y => key y == key x) = [] := by
      rw [List.filter_eq_nil_iff]
      intro y hy hk
      exact hm (List.mem_map.2 ⟨y, hy, by simpa using hk⟩)
    show _ + 0 + (F ((rs ++ [x]).filter (fun y => key y == key x)) + 0) = _
    rw [hfil, hnil, if_pos rfl, hF, h0]
    omega
def weightR : List Rl → Nat
  | [] => 0
  | x :: rs => weightR rs + (1 + 12 * x.conds.length)
theorem costR_is (rs : List Rl) : costR rs = 1 + weightR rs := by
  induction rs with
  | nil => rfl
  | cons x rs ih => unfold costR weightR; omega
theorem weightR_snoc (rs : List Rl) (x : Rl) : weightR (rs ++ [x]) = weightR rs + (1 + 12 * x.conds.length) := by
  induction rs with
  | nil => rfl
  | cons y rs ih => rw [List.cons_append]; unfold weightR; omega
def F1 (l : List Rl) : Nat := if l.length = 0 then 0 else 4 + weightR l
def d1 (l : List Rl) (x : Rl) : Nat := (if l.length = 0 then 4 else 0) + (1 + 12 * x.conds.length)
theorem F1_snoc (l : List Rl) (x : Rl) : F1 (l ++ [x]) = F1 l + d1 l x := by
  unfold F1 d1
  rw [List.length_append, List.length_singleton, if_neg (by omega), weightR_snoc]
  by_cases h : l.length = 0
  · rw [if_pos h, if_pos h, List.eq_nil_of_length_eq_zero h]
    show 4 + (0 + _) = _
    omega
  · rw [if_neg h, if_neg h]
    omega
def F2 (l : List Rl) : Nat := (if l.length = 0 then 0 else 6) + overG Rl.nr F1 l
def d2 (l : List Rl) (x : Rl) : Nat := (if l.length = 0 then 6 else 0) + d1 (l.filter (fun y => y.nr == x.nr)) x
theorem F2_snoc (l : List Rl) (x : Rl) : F2 (l ++ [x]) = F2 l + d2 l x := by
  unfold F2 d2
  rw [overG_snoc (key := Rl.nr) (F := F1) (δ := d1) rfl F1_snoc, List.length_append, List.length_singleton, if_neg (by omega)]
  by_cases h : l.length = 0
  · rw [if_pos h, if_pos h]
    omega
  · rw [if_neg h, if_neg h]
    omega
theorem costC_keys (rs : List Rl) : ∀ ks : List Nat, (∀ k ∈ ks, (rs.filter (fun x => x.nr == k)).length ≠ 0) → costC (ks.map (fun n => (n, rs.filter (fun x => x.nr == n)))) = 1 + zsum (ks.map (fun n => F1 (rs.filter (fun x => x.nr == n))))
  | [], _ => rfl
  | k :: ks, h => by
    rw [List.map_cons, costC, costC_keys rs ks (fun k hk => h k (List.mem_cons_of_mem _ hk))]
    show 1 + zsum _ + costR _ + 3 = 1 + (F1 _ + zsum _)
    have e : F1 (rs.filter (fun x => x.nr == k)) = 4 + weightR (rs.filter (fun x => x.nr == k)) := if_neg (h k List.mem_cons_self)
    rw [e, costR_is]
    show 1 + _ + (1 + weightR (rs.filter (fun x => x.nr == k))) + 3 = _
    omega
theorem filter_some {key : Rl → Nat} {rs : List Rl} {k : Nat} (h : k ∈ rs.map key) : (rs.filter (fun x => key x == k)).length ≠ 0 := by
  obtain ⟨x, hx, rfl⟩ := List.mem_map.1 h
  have : x ∈ rs.filter (fun y => key y == key x) := List.mem_filter.2 ⟨hx, by simp⟩
  have := List.length_pos_of_mem this
  omega
theorem keys_perm (l : List Nat) : (keysOf l).Perm l.eraseDups := List.mergeSort_perm _ _
theorem costC_is (rs : List Rl) : costC (groupsOf Rl.nr rs) = 1 + overG Rl.nr F1 rs := by
  unfold groupsOf
  rw [costC_keys rs _ (fun k hk => filter_some (mem_keysOf.1 hk))]
  unfold overG
  rw [zsum_perm ((keys_perm (rs.map Rl.nr)).map _)]
theorem costM_keys (rs : List Rl) : ∀ ks : List Nat, (∀ k ∈ ks, (rs.filter (fun x => x.arch == k)).length ≠ 0) → costM (ks.map (fun n => (n, rs.filter (fun x => x.arch == n)))) = 1 + zsum (ks.map (fun n => F2 (rs.filter (fun x => x.arch == n))))
  | [], _ => rfl
  | k :: ks, h => by
    rw [List.map_cons, costM, costM_keys rs ks (fun k hk => h k (List.mem_cons_of_mem _ hk)), costC_is]
    show 1 + zsum _ + _ + 2 + 3 = 1 + (F2 _ + zsum _)
    have e : F2 (rs.filter (fun x => x.arch == k)) = 6 + overG Rl.nr F1 (rs.filter (fun x => x.arch == k)) := by unfold F2; rw [if_neg (h k List.mem_cons_self)]
    rw [e]
    show 1 + _ + (1 + overG Rl.nr F1 (rs.filter (fun x => x.arch == k))) + 2 + 3 = _
    omega
theorem costM_is (rs : List Rl) : costM (groupsOf Rl.arch rs) = 1 + overG Rl.arch F2 rs := by
  unfold groupsOf
  rw [costM_keys rs _ (fun k hk => filter_some (mem_keysOf.1 hk))]
  unfold overG
  rw [zsum_perm ((keys_perm (rs.map Rl.arch)).map _)]
theorem len_filter_any (l : List Rl) (P : Rl → Bool) : ((l.filter P).length = 0) ↔ l.any P = false := by
  rw [List.length_eq_zero_iff, List.filter_eq_nil_iff]
  simp
theorem over_most (rs : List Rl) : ∀ n, n ≤ rs.length → overG Rl.arch F2 (rs.take n) ≤ mostTo rs n ∧ ((∀ x ∈ rs, x.conds.length ≤ 4) → overG Rl.arch F2 (rs.take n) ≤ 59 * n)
  | 0, _ => ⟨Nat.le_refl _, fun _ => Nat.le_refl _⟩
  | n + 1, h => by
    obtain ⟨i1, i2⟩ := over_most rs n (by omega)
    have hn : n < rs.length := by omega
    have e : overG Rl.arch F2 (rs.take (n + 1)) = overG Rl.arch F2 (rs.take n) + d2 ((rs.take n).filter (fun y => y.arch == rs[n].arch)) rs[n] := by
      rw [List.take_succ_eq_append_getElem hn]
      exact overG_snoc (key := Rl.arch) (F := F2) (δ := d2) rfl F2_snoc _ _
    have hd : d2 ((rs.take n).filter (fun y => y.arch == rs[n].arch)) rs[n] = (if (rs.take n).any (fun y => y.arch == rs[n].arch) then 0 else 6) + ((if (rs.take n).any (fun y => y.arch == rs[n].arch && y.nr == rs[n].nr) then 0 else 4) + (1 + 12 * rs[n].conds.length)) := by
      unfold d2 d1
      rw [List.filter_filter]
      congr 1
      · by_cases hc : (rs.take n).any (fun y => y.arch == rs[n].arch) = true
        · rw [if_pos hc, if_neg (fun h0 => by rw [len_filter_any] at h0; rw [h0] at hc; cases hc)]
        · rw [if_neg hc, if_pos ((len_filter_any _ _).2 (by simpa using hc))]
      · congr 1
        have e2 : (fun a : Rl => (a.nr == rs[n].nr && a.arch == rs[n].arch)) = (fun y => y.arch == rs[n].arch && y.nr == rs[n].nr) := by funext a; rw [Bool.and_comm]
        rw [e2]
        by_cases hc : (rs.take n).any (fun y => y.arch == rs[n].arch && y.nr == rs[n].nr) = true
        · rw [if_pos hc, if_neg (fun h0 => by rw [len_filter_any] at h0; rw [h0] at hc; cases hc)]
        · rw [if_neg hc, if_pos ((len_filter_any _ _).2 (by simpa using hc))]
    rw [e, hd]
    have em : mostTo rs (n + 1) = mostTo rs n + mostAt rs n := rfl
    rw [em]
    unfold mostAt
    rw [List.getElem?_eq_getElem hn]
    simp only
    refine ⟨?_, fun h4 => ?_⟩
    · split <;> split <;> omega
    · have := i2 h4
      have := h4 _ (List.getElem_mem hn)
      split <;> split <;> omega
theorem right_bounds {q : Po} (hr : q.right = true) : q.rules.length ≤ 64 ∧ (∀ x ∈ q.rules, x.conds.length ≤ 4 ∧ ∀ c ∈ x.conds, c.right = true) := by
  unfold Po.right at hr
  simp only [Bool.and_eq_true, decide_eq_true_eq] at hr
  refine ⟨hr.1.1, fun x hx => ?_⟩
  have := List.all_eq_true.1 hr.2 x hx
  unfold Rl.right at this
  simp only [Bool.and_eq_true, decide_eq_true_eq] at this
  exact ⟨this.1.1, fun c hc => List.all_eq_true.1 this.2 c hc⟩
theorem whole_cost {q : Po} (hr : q.right = true) : costM (groupsOf Rl.arch q.rules) ≤ 1 + mostTo q.rules q.rules.length ∧ costM (groupsOf Rl.arch q.rules) ≤ 3777 := by
  obtain ⟨h64, hx⟩ := right_bounds hr
  obtain ⟨h1, h2⟩ := over_most q.rules q.rules.length (Nat.le_refl _)
  have h2 := h2 (fun x hx' => (hx x hx').1)
  rw [List.take_length] at h1 h2
  rw [costM_is]
  omega
theorem whole_goes {q : Po} (hk : q.ok) (hr : q.right = true) : Goes startL (wholeL q) (costM (groupsOf Rl.arch q.rules)) ∧ ∀ d st, d.ok → st.a = d.arch → labR (wholeL q).1.s.c d st (wholeL q).2 = judgeR q.rules q.dflt d := by
  obtain ⟨_, hx⟩ := right_bounds hr
  obtain ⟨h1, h2⟩ := emitM_goes hk.1 (groupsOf Rl.arch q.rules) startL (.inr rfl) (groups_ok (fun x hx' => ⟨hk.2 x hx', (hx x hx').2⟩) (fun x hxo => hxo.1)) (by have := (whole_cost hr).2; show 0 + _ ≤ _; omega)
  refine ⟨h1, fun d st hd ha => ?_⟩
  rw [← machV_groups]
  exact h2 d st hd ha
theorem groups_nil (key : Rl → Nat) : groupsOf key [] = [] := by
  have e : keysOf [] = [] := by
    apply List.eq_nil_iff_forall_not_mem.2
    intro a ha
    rw [mem_keysOf] at ha
    cases ha
  unfold groupsOf
  rw [List.map_nil, e]
  rfl
theorem lower_none (v : Nat) : lowerN ⟨[], v⟩ = [⟨6, 0, 0, (v : Nat)⟩] := by
  have e1 : addN [] (retX v) = ([retX v], 1, 0) := by
    unfold addN
    rw [if_pos (show plainX (retX v) = true from plain_one (.inr (.inr rfl)) _)]
    rfl
  unfold lowerN lastS
  rw [if_neg (by simp)]
  unfold wholeL
  rw [groups_nil]
  unfold emitM endL startL
  simp only
  unfold newL addS
  simp only [e1]
  rfl
/-- What Lower makes of a policy that is right. -/
theorem last_goes {q : Po} (hk : q.ok) (hr : q.right = true) : Good (lastS q) ∧ (lastS q).c.length ≤ mostN q.rules ∧ ∀ d : Rec, d.ok → (runS (lastS q).c d).1 = judgeR q.rules q.dflt d := by
  obtain ⟨h1, h2⟩ := whole_goes hk hr
  have hc := whole_cost hr
  have hl := h1.len
  have h0 : startL.s.c.length = 0 := rfl
  unfold lastS
  by_cases hn : 0 < q.rules.length
  · rw [if_pos hn]
    obtain ⟨l1, _, l2⟩ := load_good h1.good.good (by omega) (k := 4) (by omega) (by omega) h1.lab
    have ll := l1.len
    refine ⟨l1.1, ?_, fun d hd => ?_⟩
    · unfold mostN
      rw [if_neg (by omega)]
      omega
    · have := l2 d zeroSt
      rw [l1.2.2] at this
      rw [run_lab, this, arch_word]
      exact h2 d _ hd rfl
  · rw [if_neg hn]
    have hnil : q.rules = [] := List.eq_nil_of_length_eq_zero (by omega)
    have e : wholeL q = endL startL q.dflt := by
      unfold wholeL
      rw [hnil, groups_nil]
      rfl
    obtain ⟨e1, e2⟩ := end_goes (S := startL) (.inr rfl) (by show 0 ≤ 3990; omega) hk.1
    have el := e1.len
    rw [e]
    have hlen : (endL startL q.dflt).1.s.c.length = 1 := by have := e1.good.good.2.1.1; omega
    have hlab := isLab_iff.1 e1.lab
    refine ⟨e1.good.good, ?_, fun d hd => ?_⟩
    · unfold mostN
      rw [if_pos (by omega)]
      omega
    · rw [run_lab, hnil]
      have hl2 : (endL startL q.dflt).2 = (((endL startL q.dflt).1.s.c.length : Nat) : Int) := by omega
      rw [← hl2, e2]
      rfl
theorem lowerN_is {q : Po} (hk : q.ok) (hr : q.right = true) : lowerN q = (lastS q).c := by
  unfold lowerN resultN
  rw [if_pos (last_goes hk hr).1.1]
theorem lower_ok {q : Po} (hk : q.ok) (hr : q.right = true) : SoundL (lowerN q) ∧ (∀ x ∈ lowerN q, x.ok) ∧ (lowerN q).length ≤ mostN q.rules ∧ ∀ d : Rec, d.ok → (runS (lowerN q) d).1 = judgeR q.rules q.dflt d := by
  obtain ⟨h1, h2, h3⟩ := last_goes hk hr
  rw [lowerN_is hk hr]
  exact ⟨h1.2.1, h1.2.2, h2, h3⟩
end Go.Proofs.YtbekkdhlfkongaaGreatDoor
/-
  The keys of a map, in increasing order.
-/
namespace Go.Proofs.YtbekkdhlfkongaaGreatDoor
open Go.ChangeShapes Go.WideShapes Go.ChangeAt Go.RowKit Go.Shelf
set_option maxRecDepth 20000

theorem perm_mem : ∀ (l m : List Nat), l.Nodup → m.Nodup → (∀ x, x ∈ l ↔ x ∈ m) → l.Perm m
  | [], m, _, _, h => by
    have : m = [] := List.eq_nil_iff_forall_not_mem.2 (fun x hx => by have := (h x).2 hx; cases this)
    rw [this]
  | x :: l, m, hl, hm, h => by
    have hx : x ∈ m := (h x).1 List.mem_cons_self
    obtain ⟨hxl, hl'⟩ := List.nodup_cons.1 hl
    refine (List.Perm.cons x (perm_mem l (m.erase x) hl' (hm.erase x) (fun y => ?_))).trans (List.perm_cons_erase hx).symm
    by_cases e : y = x
    · subst e
      exact ⟨fun hy => absurd hy hxl, fun hy => by rw [hm.mem_erase_iff] at hy; exact absurd rfl hy.1⟩
    · rw [List.mem_erase_of_ne e, ← h y, List.mem_cons]
      simp [e]
theorem sorted_one : ∀ (l m : List Nat), l.Pairwise (· ≤ ·) → m.Pairwise (· ≤ ·) → l.Perm m → l = m
  | [], m, _, _, h => by rw [h.symm.eq_nil]
  | x :: l, [], _, _, h => by have := h.eq_nil; cases this
  | x :: l, y :: m, hl, hm, h => by
    obtain ⟨h1, h2⟩ := List.pairwise_cons.1 hl
    obtain ⟨k1, k2⟩ := List.pairwise_cons.1 hm
    have exy : x = y := by
      have a : x ∈ y :: m := h.subset List.mem_cons_self
      have b : y ∈ x :: l := h.symm.subset List.mem_cons_self
      rcases List.mem_cons.1 a with a | a
      · exact a
      · rcases List.mem_cons.1 b with b | b
        · exact b.symm
        · have := k1 x a
          have := h1 y b
          omega
    subst exy
    rw [sorted_one l m h2 k2 (List.Perm.cons_inv h)]
def sortU (l : List Nat) : List Nat := l.mergeSort (fun a b => decide (a ≤ b))
theorem sortU_sorted (l : List Nat) : (sortU l).Pairwise (· ≤ ·) := by
  have h := List.pairwise_mergeSort (le := fun a b : Nat => decide (a ≤ b)) (fun a b c h1 h2 => by simp at *; omega) (fun a b => by simp; omega) l
  exact h.imp (fun h => by simpa using h)
theorem sortU_keys {ss L : List Nat} (hn : ss.Nodup) (h : ∀ x, x ∈ ss ↔ x ∈ L) : sortU ss = keysOf L := by
  apply sorted_one _ _ (sortU_sorted _) (sortU_sorted _)
  exact (List.mergeSort_perm _ _).trans ((perm_mem ss L.eraseDups hn (nodup_eraseDups L) (fun x => by rw [h x, List.mem_eraseDups])).trans (List.mergeSort_perm _ _).symm)
set_option maxHeartbeats 4000000 in
theorem sortedU_any (g : Nat) (lb : Array Value) (eg : ∀ args w, (callFunc g args).run Tryz.prog w = .ok (.enter g args) w) (S Sp : List Nat → Prop) (N : Nat) (hN : N ≤ 64) (hS : ∀ ss, S ss → ss.length ≤ 64) (w : World) (hseq : ∀ k, 1 ≤ k → SeqStopsK Fence.wide k Tryz.prog g lb (fun x : Nat => #[encW x]) KeepsWalks S Sp N w) :
    Calls Tryz.prog 94 #[.func (.func g) #[] lb] w fun e w' => ∃ (v : Value) (ss : List Nat), e = .returned v ∧ S ss ∧ w'.ownsRow w.heap.size 23 1 v ss.length ((sortU ss).map encW) ∧ Below w.heap.size w w' := by
  have hcol : Calls Tryz.prog 131 #[.func (.func g) #[] lb] w fun e w' => ∃ (v : Value) (ss : List Nat), e = .returned v ∧ S ss ∧ w'.ownsRow w.heap.size 23 1 v ss.length (ss.map encW) ∧ Below w.heap.size w w' := by
    have hap := appendU_in g lb eg S Sp N (by omega) w hseq
    go_enter Tryz.func131, Tryz.ntmps131
    go_wp2_with fail
    refine hap.mono ?_
    rintro e w1 ⟨v, ss, rfl, h1, h2, h3⟩
    obtain ⟨va, vc, rfl⟩ := own_shape h2
    have H2 := Lib.hid h2
    have H3 := Lib.hid h3
    clear h2 h3
    go_wp2_with fail
    go_ret
    exact ⟨_, ss, rfl, h1, H2.out, H3.out⟩
  go_enter Tryz.func94, Tryz.ntmps94
  go_wp2_with fail
  refine hcol.mono ?_
  rintro e w1 ⟨v, ss, rfl, h1, h2, h3⟩
  obtain ⟨va, vc, rfl⟩ := own_shape h2
  have H2 := Lib.hid h2
  have H3 := Lib.hid h3
  clear h2 h3
  go_wp2_with fail
  refine (usort_any _ ss w.heap.size w1 H2.out (hS ss h1) H3.out.size).mono ?_
  rintro e w2 ⟨rfl, h4, h5⟩
  have H4 := Lib.hid h4
  have H5 := Lib.hid (H3.out.trans h5)
  clear h4 h5
  go_wp2_with fail
  go_ret
  exact ⟨_, ss, rfl, h1, H4.out, H5.out⟩
set_option maxHeartbeats 4000000 in
theorem zinOrder_any (mb nn : Nat) (D : DataW Value) (L : List Nat) (w : World) (hown : w.ownsMap Tryz.prog 23 fnR mb nn D) (hL : ∀ x, Maps.has D (keyU x) = true ↔ x ∈ L) (h64 : L.length ≤ 64) :
    Calls Tryz.prog 54 #[.map (some mb)] w fun e w' => ∃ v, e = .returned v ∧ w'.ownsRow w.heap.size 23 1 v (keysOf L).length ((keysOf L).map encW) ∧ Below w.heap.size w w' := by
  have hk := (callsIn_wide (n := 6)).1 (keysU_in 6 mb w)
  have hbA : Below w.heap.size w (w.alloc (.cells #[.map (some mb)] 105)) := ba _ (Below.refl _ _)
  have hown2 : (w.alloc (.cells #[.map (some mb)] 105)).ownsMap Tryz.prog 23 fnR mb nn D := hown.alloc _
  have hbox := Boxed.new w 105 (.map (some mb))
  obtain ⟨W, hW⟩ : ∃ W, W = w.alloc (.cells #[.map (some mb)] 105) := ⟨_, rfl⟩
  rw [← hW] at hk hbA hown2 hbox
  have hsz : W.heap.size = w.heap.size + 1 := by rw [hW]; exact size_alloc _ _
  have hs := sortedU_any 133 #[.pointer (some ⟨w.heap.size, 0, none⟩)] (enters_of Tryz.func133 (by kernel_rfl) rfl) (fun ss => ss.Nodup ∧ ∀ x, x ∈ ss ↔ Maps.has D (keyU x) = true) (fun _ => True) L.length h64
    (fun ss hss => Nat.le_trans (nodup_len ss L hss.1 (fun x hx => (hL x).1 ((hss.2 x).1 hx))) h64) W
    (fun k hk => keysU_stops k hk w.heap.size mb nn D L (fun x hx => (hL x).1 hx) W (by omega) hbox.cell hown2)
  have HS := Lib.hid hs
  have HBA := Lib.hid hbA
  have HLx := Lib.hid hL
  clear hs hbA hW hown2 hbox hown hL
  go_enter Tryz.func54, Tryz.ntmps54
  go_wp2_with fail
  refine hk.mono ?_
  rintro e w1 ⟨rfl, rfl⟩
  go_wp2_with fail
  refine HS.out.mono ?_
  rintro e w2 ⟨v, ss, rfl, ⟨h1, h1'⟩, h2, h3⟩
  have hkeys := sortU_keys (ss := ss) (L := L) h1 (fun x => by rw [h1' x, HLx.out x])
  obtain ⟨va, vc, rfl⟩ := own_shape h2
  have hlen : ss.length = (keysOf L).length := by rw [← hkeys]; exact (List.length_mergeSort ss).symm
  rw [hkeys, hlen] at h2
  rw [hlen]
  have H2 := Lib.hid (own_mono h2 (show w.heap.size ≤ w1.heap.size by omega))
  have H3 := Lib.hid (below2 HBA.out h3)
  clear h2 h3 hkeys h1' hlen
  go_wp2_with fail
  go_ret
  exact ⟨_, rfl, H2.out, H3.out⟩
end Go.Proofs.YtbekkdhlfkongaaGreatDoor
/-
  Records at which a rule's conditions begin, or cease, to hold (package hurdleref13): that they are records, whatever they are.
-/
namespace Go.Proofs.YtbekkdhlfkongaaGreatDoor
open Go.ChangeShapes Go.WideShapes Go.ChangeAt Go.RowKit
set_option maxRecDepth 20000

theorem infoDz : (Tryz.prog.info? 29).map (fun i => (i.zero, i.size, i.bytes)) = some (some (.agg #[.int .u32 0, .int .u32 0, .int .u64 0, .int .u64 0, .int .u64 0, .int .u64 0, .int .u64 0, .int .u64 0, .int .u64 0]), 9, 64) := by kernel_rfl
/-- The cells of records. -/
def dcells (l : List Rec) : List Value := l.flatMap fun d => d.cells.toList
theorem dcells_len (l : List Rec) : (dcells l).length = l.length * 9 := by
  induction l with
  | nil => rfl
  | cons x l ih => simp [dcells, List.flatMap_cons] at ih ⊢; omega
theorem dcells_app (l m : List Rec) : dcells (l ++ m) = dcells l ++ dcells m := by simp [dcells]
theorem dcells_one (d : Rec) : dcells [d] = d.cells.toList := by simp [dcells]
theorem dcells_at (l : List Rec) (i : Nat) (h : i < l.length) : ∀ j, j < 9 → (dcells l)[i * 9 + j]? = (l[i]).cells.toList[j]? := by
  induction l generalizing i with
  | nil => simp at h
  | cons x l ih =>
    intro j hj
    have e : dcells (x :: l) = x.cells.toList ++ dcells l := by simp [dcells]
    rw [e]
    cases i with
    | zero =>
      rw [List.getElem?_append_left (by simp; omega)]
      simp
    | succ i =>
      rw [List.getElem?_append_right (by simp; omega)]
      simp only [List.getElem_cons_succ]
      rw [← ih i (by simpa using h) j hj]
      congr 1
      simp
      omega
theorem rec_one (d : Rec) : ∀ u ∈ d.cells.toList, u.oneCell' = true := by
  intro u hu
  simp at hu
  rcases hu with rfl | rfl | rfl | rfl | rfl | rfl | rfl | rfl | rfl <;> rfl
/-- The cells of a record in a row. -/
def R9 (w : World) (b o : Nat) (d : Rec) : Prop := ∀ j u, d.cells.toList[j]? = some u → w.cell? ⟨b, o + j, none⟩ = some u
/-- Records that lie in a world. -/
def DsAt (w : World) (v : Value) (l : List Rec) : Prop :=
  ∃ ao cap, v = .slice ao l.length cap ∧ (l = [] ∨ ∃ b off, ao = some ⟨b, off, none⟩ ∧ b < w.heap.size ∧ ∀ i (h : i < l.length), R9 w b (off + i * 9) l[i])
theorem DsAt.shape {w : World} {v : Value} {l : List Rec} (h : DsAt w v l) : ∃ ao cap, v = .slice ao l.length cap := by
  obtain ⟨ao, cap, rfl, _⟩ := h
  exact ⟨ao, cap, rfl⟩
theorem DsAt.below {w w' : World} {v : Value} {l : List Rec} (h : DsAt w v l) (hb : Below w.heap.size w w') : DsAt w' v l := by
  obtain ⟨ao, cap, rfl, h⟩ := h
  refine ⟨ao, cap, rfl, h.imp id ?_⟩
  rintro ⟨b, off, rfl, hl, hc⟩
  exact ⟨b, off, rfl, Nat.lt_of_lt_of_le hl hb.size, fun i hi j u hu => (hb.cell (p := ⟨b, _, none⟩) hl).trans (hc i hi j u hu)⟩
theorem DsAt.row {w : World} {ao : Option Addr} {cap n : Nat} {l : List Rec} (h : DsAt w (.slice ao n cap) l) (i : Nat) (hi : i < l.length) : ∃ b off, ao = some ⟨b, off, none⟩ ∧ b < w.heap.size ∧ R9 w b (off + i * 9) l[i] := by
  obtain ⟨ao', cap', e, h⟩ := h
  rcases h with rfl | ⟨b, off, rfl, hb, hc⟩
  · cases hi
  · cases e
    exact ⟨b, off, rfl, hb, hc i hi⟩
theorem R9.cells {w : World} {b o : Nat} {d : Rec} (h : R9 w b o d) : w.cell? ⟨b, o, none⟩ = some (.int .u32 d.nr) ∧ w.cell? ⟨b, o + 1, none⟩ = some (.int .u32 d.arch) ∧ w.cell? ⟨b, o + 2, none⟩ = some (.int .u64 d.ip) ∧ w.cell? ⟨b, o + 3, none⟩ = some (.int .u64 d.a0) ∧ w.cell? ⟨b, o + 4, none⟩ = some (.int .u64 d.a1) ∧
    w.cell? ⟨b, o + 5, none⟩ = some (.int .u64 d.a2) ∧ w.cell? ⟨b, o + 6, none⟩ = some (.int .u64 d.a3) ∧ w.cell? ⟨b, o + 7, none⟩ = some (.int .u64 d.a4) ∧ w.cell? ⟨b, o + 8, none⟩ = some (.int .u64 d.a5) :=
  ⟨h 0 _ rfl, h 1 _ rfl, h 2 _ rfl, h 3 _ rfl, h 4 _ rfl, h 5 _ rfl, h 6 _ rfl, h 7 _ rfl, h 8 _ rfl⟩
theorem DsAt.own {w : World} {base : Nat} {e : TypeId} {v : Value} {n : Nat} {l : List Rec} (h : w.ownsRow base e 9 v n (dcells l)) (hn : n = l.length) : DsAt w v l := by
  subst hn
  rcases h.2 with ⟨rfl, h0⟩ | ⟨g, cap, cur, rfl, _, hg, _, _, _, ht⟩
  · obtain rfl := List.length_eq_zero_iff.1 h0
    exact ⟨none, 0, rfl, .inl rfl⟩
  · refine ⟨_, _, rfl, .inr ⟨g, 0, rfl, lt_of_block hg, fun i hi j u hu => ?_⟩⟩
    have hj : j < 9 := by have := (List.getElem?_eq_some_iff.1 hu).1; simpa using this
    have h4 := dcells_at l i hi j hj
    rw [Nat.zero_add, cell_in hg (i * 9 + j), ← Array.getElem?_toList]
    rw [hu, ← ht, List.getElem?_take, if_pos (by omega)] at h4
    exact h4
/-- A record of which one argument is put. -/
def argSet (d : Rec) (n v : Nat) : Rec := match n with
  | 0 => ⟨d.nr, d.arch, d.ip, v, d.a1, d.a2, d.a3, d.a4, d.a5⟩
  | 1 => ⟨d.nr, d.arch, d.ip, d.a0, v, d.a2, d.a3, d.a4, d.a5⟩
  | 2 => ⟨d.nr, d.arch, d.ip, d.a0, d.a1, v, d.a3, d.a4, d.a5⟩
  | 3 => ⟨d.nr, d.arch, d.ip, d.a0, d.a1, d.a2, v, d.a4, d.a5⟩
  | 4 => ⟨d.nr, d.arch, d.ip, d.a0, d.a1, d.a2, d.a3, v, d.a5⟩
  | _ => ⟨d.nr, d.arch, d.ip, d.a0, d.a1, d.a2, d.a3, d.a4, v⟩
theorem argSet_cells (d : Rec) {n : Nat} (hn : n ≤ 5) (v : Nat) : d.cells.setIfInBounds (3 + n) (.int .u64 (v : Nat)) = (argSet d n v).cells := by
  have h : n = 0 ∨ n = 1 ∨ n = 2 ∨ n = 3 ∨ n = 4 ∨ n = 5 := by omega
  rcases h with rfl | rfl | rfl | rfl | rfl | rfl <;> rfl
theorem argSet_ok {d : Rec} (h : d.ok) (n : Nat) {v : Nat} (hv : v < 18446744073709551616) : (argSet d n v).ok := by
  obtain ⟨h0, h1, h2, h3, h4, h5, h6, h7, h8⟩ := h
  unfold argSet
  split <;> exact ⟨by assumption, by assumption, by assumption, by assumption, by assumption, by assumption, by assumption, by assumption, by assumption⟩
theorem wrap_nat (x : Int) : ∃ E : Nat, IntKind.u64.wrap x = (E : Int) ∧ E < 18446744073709551616 := ⟨(IntKind.u64.wrap x).toNat, by rw [IntKind.wrap_u64]; omega, by rw [IntKind.wrap_u64]; omega⟩
theorem zrow_cell {w : World} {g : Nat} {old : Array Value} {t : TypeId} (hg : w.heap[g]? = some (.cells old t)) (i : Nat) (v : Value) : RowPut w (w.setCell ⟨g, i, none⟩ v) g (.cells (old.setIfInBounds i v) t) := by
  have h := rowPut_set hg (old.setIfInBounds i v)
  rwa [← setCell_eq_setRow w _ _ _ _ _ _ hg] at h
theorem zrow_then {w w' w'' : World} {g : Nat} {o o' : Obj} (h : RowPut w w' g o) (h' : RowPut w' w'' g o') : RowPut w w'' g o' :=
  ⟨h'.os.trans h.os, h'.tape.trans h.tape, h'.output.trans h.output, h'.size.trans h.size, h'.row, fun k hk => (h'.rest k hk).trans (h.rest k hk)⟩
abbrev recB (d : Rec) : Obj := .cells d.cells 29
theorem put_arg {w : World} {g : Nat} {d : Rec} (h : w.heap[g]? = some (recB d)) {n : Nat} (hn : n ≤ 5) (v : Nat) : RowPut w (w.setCell ⟨g, 3 + n, none⟩ (.int .u64 (v : Nat))) g (recB (argSet d n v)) := by
  have := zrow_cell h (3 + n) (.int .u64 (v : Nat))
  rwa [argSet_cells d hn] at this
theorem put_heads {w : World} {g : Nat} {d : Rec} (h : w.heap[g]? = some (recB d)) (a n : Nat) : RowPut w ((w.setCell ⟨g, 1, none⟩ (.int .u32 (a : Nat))).setCell ⟨g, 0, none⟩ (.int .u32 (n : Nat))) g (recB ⟨n, a, d.ip, d.a0, d.a1, d.a2, d.a3, d.a4, d.a5⟩) := by
  have h1 := zrow_cell h 1 (.int .u32 (a : Nat))
  have h2 := zrow_cell h1.row 0 (.int .u32 (n : Nat))
  exact zrow_then h1 h2
/-- A row of a call's own stays where another block is put. -/
theorem own_stay {w w' : World} {g : Nat} {o : Obj} {base n : Nat} {e : TypeId} {size : Nat} {v : Value} {xs : List Value} (h : w.ownsRow base e size v n xs) (hp : RowPut w w' g o) (hv : v.ownBlock ≠ some g) : w'.ownsRow base e size v n xs := by
  obtain ⟨h1, h2⟩ := h
  refine ⟨h1, h2.imp id ?_⟩
  rintro ⟨k, cap, cur, rfl, hb, hg, r⟩
  refine ⟨k, cap, cur, rfl, hb, (hp.rest k ?_).trans hg, r⟩
  rintro rfl
  exact hv rfl
section
variable {ops : Array Oper} {rest : List Oper} {o : Oper} {a : Act} {w : World} {Q : Exit → Act → World → Prop}
/-- What append gives lies where the row lay, or in a new block. -/
theorem append_apartG (base : Nat) (t ty e : TypeId) (i : TypeInfo) (z : Value) (size bytes : Nat) (ht : Tryz.prog.underlying t = some (.slice e)) (hi : Tryz.prog.info? e = some i) (hz : i.zero = some z) (hsize : i.size = size) (hby : i.bytes = bytes) (hzs : z.cells.size = size) (hsz : 0 < size)
    (v : Value) (n : Nat) (xs : List Value) (hown : w.ownsRow base e size v n xs) (ad : Addr) (c : Nat) (news : List Value) (hl : news.length = 1 * size) (hnews : ∀ j u, news[j]? = some u → w.cell? (ad.add j) = some u) (hone : ∀ u ∈ news, u.oneCell' = true) (h63 : n + 1 ≤ maxLen) (hbytes : (n + 1) * bytes ≤ 140737488355328) (hbase : base ≤ w.heap.size) :
    ∃ v' w', (Builtin.append_ #[t, t] ty #[v, .slice (some ad) 1 c]).run Tryz.prog w = .ok v' w' ∧ w'.ownsRow base e size v' (n + 1) (xs ++ news) ∧ w.grownBy w' v.ownBlock ∧ ∀ k, v'.ownBlock = some k → v.ownBlock = some k ∨ w.heap.size ≤ k := by
  obtain ⟨v', w', hr, h2, h3, _⟩ := run_append_own (P := Tryz.prog) w base t ty e i z size bytes ht hi hz hsize hby hzs hsz v n xs hown ad 1 c news hl hnews hone h63 hbytes hbase
  refine ⟨v', w', hr, h2, h3, ?_⟩
  intro k hk
  rcases hown.2 with ⟨rfl, rfl⟩ | ⟨g, cap, cur, rfl, hbg, hg, hnc, hcm, hcs, htake⟩
  · obtain ⟨v2, w2, hr2, h22, _, _⟩ := run_append_own (P := Tryz.prog) w w.heap.size t ty e i z size bytes ht hi hz hsize hby hzs hsz (.slice none 0 0) 0 xs ⟨hown.1, .inl ⟨rfl, rfl⟩⟩ ad 1 c news hl hnews hone h63 hbytes (Nat.le_refl _)
    rw [hr] at hr2
    cases hr2
    exact .inr (h22.lt k hk).1
  · by_cases hroom : n + 1 ≤ cap
    · have hr2 := run_append_room (P := Tryz.prog) w t ty e i ht hi g n cap cur hg ad 1 c news (by rw [hsize]; exact hl) hnews hone hroom (by rw [hsize, hcs, hl, ← Nat.add_mul]; exact Nat.mul_le_mul_right _ hroom)
      rw [hr] at hr2
      cases hr2
      exact .inl hk
    · have holds : ∀ j u, xs[j]? = some u → w.cell? ((⟨g, 0, none⟩ : Addr).add j) = some u := hown.cells (g := g) rfl
      have hr2 := run_append_grow (P := Tryz.prog) w t ty e i z ht hi hz ⟨g, 0, none⟩ n cap xs (by rw [hsize]; exact hown.1) holds ad 1 c news (by rw [hsize]; exact hl) hnews (by omega) (by unfold maxLen at h63; omega) (growslice_fits (by omega) (by rw [hby]; exact hbytes))
      rw [hr] at hr2
      cases hr2
      unfold Value.ownBlock at hk
      simp at hk
      exact .inr (by omega)
theorem wpList_append_apartG (hgd : o.guard = none) (s x : Operand) (t : TypeId) (ho : o.op = .call { callee := .builtin .append, args := #[s, x], argTypes := #[t, t] })
    (base : Nat) (e : TypeId) (i : TypeInfo) (z : Value) (size bytes : Nat) (ht : Tryz.prog.underlying t = some (.slice e)) (hi : Tryz.prog.info? e = some i) (hz : i.zero = some z) (hsize : i.size = size) (hby : i.bytes = bytes) (hzs : z.cells.size = size) (hsz : 0 < size)
    (v : Value) (n : Nat) (xs : List Value) (hs : a.eval s = v) (hown : w.ownsRow base e size v n xs) (ad : Addr) (c : Nat) (hx : a.eval x = .slice (some ad) 1 c) (news : List Value) (hl : news.length = 1 * size) (hnews : ∀ j u, news[j]? = some u → w.cell? (ad.add j) = some u) (hone : ∀ u ∈ news, u.oneCell' = true)
    (h63 : n + 1 ≤ maxLen) (hbytes : (n + 1) * bytes ≤ 140737488355328) (hbase : base ≤ w.heap.size)
    (h : ∀ v' w', w'.ownsRow base e size v' (n + 1) (xs ++ news) → w.grownBy w' v.ownBlock → (∀ k, v'.ownBlock = some k → v.ownBlock = some k ∨ w.heap.size ≤ k) → wpList Tryz.prog ops Q rest (a.put o.dst v') w') : wpList Tryz.prog ops Q (o :: rest) a w := by
  obtain ⟨v', w', hr, h2, h3, h4⟩ := append_apartG base t o.type e i z size bytes ht hi hz hsize hby hzs hsz v n xs hown ad c news hl hnews hone h63 hbytes hbase
  refine wpList_plain hgd fun K hK => ?_
  unfold Oper.wp execOp
  simp only [ho, resolve, invoke, builtin, Sem.run_bind, Sem.run_pure, Result.andThen_ok, List.map_toArray, List.map_cons, List.map_nil, hs, hx, hr]
  exact hK _ _ (h v' w' h2 h3 h4)
end
/-- What Edges answers. -/
def EdEnd (w' : World) (e : Ending) : Prop := ∃ v l, e = .returned v ∧ DsAt w' v l ∧ (∀ r ∈ l, r.ok) ∧ l.length ≤ 200
set_option maxHeartbeats 16000000 in
theorem redges_any (cv : Value) (x : Rl) (d : Rec) (w : World) (hC : CAt w cv x.conds) (hxk : x.ok) (hl : x.conds.length ≤ 20) (hd : d.ok) :
    Calls Tryz.prog 15 #[x.val cv, d.val] w fun e w' => EdEnd w' e ∧ Below w.heap.size w w' := by
  obtain ⟨ao, cap, rfl, hrows⟩ := hC.rows
  obtain ⟨i0, hi, hz0, hz1, hz2⟩ := info_parts infoDz
  have HROW := Lib.hid hrows
  obtain ⟨m, hm⟩ : ∃ m, m = x.conds.length := ⟨_, rfl⟩
  rw [← hm] at hl
  obtain ⟨W, hW, X0, X1, HBx⟩ := box2 w (rlB x (.slice ao m cap)) (recB d)
  rw [← hm]
  have HM := Lib.hid hm
  have HX0 := Lib.hid X0
  have HXK := Lib.hid hxk
  clear hrows hm hxk hC
  go_enter Tryz.func15, Tryz.ntmps15
  go_upto_region 1 with fail
  change Code.wp _ _ _ _ ((w.alloc (rlB x (.slice ao m cap))).alloc (recB d))
  rw [← hW]
  clear hW
  obtain ⟨x0, x1, x2, x3⟩ := rbox X0
  have f0 := free_in X1 0
  have f1 := free_in X1 1
  have q0 := cell_in X1 0
  have q1 := cell_in X1 1
  have hlt : w.heap.size + 1 < W.heap.size := lt_of_block X1
  go_upto_region 3 with fail
  have hput := put_heads X1 x.arch x.nr
  obtain ⟨W2, hW2⟩ : ∃ V, V = (W.setCell ⟨w.heap.size + 1, 1, none⟩ (.int .u32 (x.arch : Nat))).setCell ⟨w.heap.size + 1, 0, none⟩ (.int .u32 (x.nr : Nat)) := ⟨_, rfl⟩
  rw [← hW2] at hput ⊢
  obtain ⟨d', hd'⟩ : ∃ d' : Rec, d' = ⟨x.nr, x.arch, d.ip, d.a0, d.a1, d.a2, d.a3, d.a4, d.a5⟩ := ⟨_, rfl⟩
  rw [← hd'] at hput
  have hdk : d'.ok := by rw [hd']; exact ⟨HXK.out.2.1, HXK.out.1, hd.2.2.1, hd.2.2.2.1, hd.2.2.2.2.1, hd.2.2.2.2.2.1, hd.2.2.2.2.2.2.1, hd.2.2.2.2.2.2.2.1, hd.2.2.2.2.2.2.2.2⟩
  have HDK := Lib.hid hdk
  have HD2 := Lib.hid hput.row
  have HX2 := Lib.hid (hput.keep (by omega : w.heap.size ≠ w.heap.size + 1) HX0.out)
  have HB2 := Lib.hid (hput.below HBx (by omega))
  clear hd' hW2 hput X0 X1 HBx x0 x1 x2 x3 f0 f1 q0 q1 hlt hdk HX0
  obtain ⟨d0, d1, d2, d3, d4, d5, d6, d7, d8⟩ := rec_cells HD2.out
  have hl2 : w.heap.size + 1 < W2.heap.size := lt_of_block HD2.out
  go_upto_region 5 with fail
  change Code.wp _ _ _ _ ((W2.alloc (recB d')).alloc (recB d'))
  have HO0 := Lib.hid (show (W2.alloc (recB d')).ownsRow W2.heap.size 29 9 (.slice (some ⟨W2.heap.size, 0, none⟩) 1 1) 1 (dcells [d']) from ⟨by rw [dcells_len]; rfl, .inr ⟨W2.heap.size, 1, _, rfl, Nat.le_refl _, heap_alloc_new W2 _, Nat.le_refl _, by unfold maxLen; omega, rfl, by rw [dcells_one]; rfl⟩⟩)
  obtain ⟨W3, hW3⟩ : ∃ V, V = (W2.alloc (recB d')).alloc (recB d') := ⟨_, rfl⟩
  have HO3 := Lib.hid (own_below HO0.out (ba (recB d') (Below.refl (W2.alloc (recB d')).heap.size (W2.alloc (recB d')))))
  have HB3 := Lib.hid (ba (recB d') (ba (recB d') (Below.refl W2.heap.size W2)))
  have HA3 := Lib.hid (heap_alloc_new (W2.alloc (recB d')) (recB d'))
  rw [size_alloc] at HA3
  rw [← hW3] at HO3 HB3 HA3 ⊢
  have hs2 : W2.heap.size + 1 < W3.heap.size := lt_of_block HA3.out
  have HD3 := Lib.hid (kb HB3.out HD2.out)
  have HX3 := Lib.hid (kb HB3.out HX2.out)
  obtain ⟨B, hB⟩ : ∃ B, B = W2.heap.size := ⟨_, rfl⟩
  obtain ⟨ga, hga⟩ : ∃ g, g = W2.heap.size + 1 := ⟨_, rfl⟩
  have hgaB : B < ga := by omega
  have hBW3 : B < W3.heap.size := by omega
  rw [← hB] at HO3 HB3 hl2
  rw [← hga] at HA3 hs2
  have HBB := Lib.hid (HB2.out.trans ((show Below W2.heap.size W2 W3 by rw [← hB]; exact HB3.out).mono HB2.out.size))
  have hw2 : w.heap.size < B := by omega
  have HU0 : Hid ((Value.slice (some ⟨W2.heap.size, 0, none⟩) 1 1).ownBlock ≠ some ga) := Lib.hid (by
    intro h
    have : W2.heap.size = ga := Option.some.inj h
    omega)
  rw [← hB] at HU0
  rw [← hga, ← hB]
  clear HO0 hW3 hga d0 d1 d2 d3 d4 d5 d6 d7 d8 HD2 HX2 HB3 hB hs2
  have RG : ∀ wr, Below B W3 wr → wr.heap[w.heap.size]? = some (rlB x (.slice ao m cap)) ∧ wr.heap[w.heap.size + 1]? = some (recB d') ∧ Below w.heap.size w wr := fun wr h => ⟨(h.block _ hw2).trans HX3.out, (h.block _ hl2).trans HD3.out, HBB.out.trans (h.mono (by omega))⟩
  have HRG := Lib.hid RG
  clear RG HD3 HX3
  go_wp2_with fail
  go_loopw [5, 7] (fun u i wr => ∃ (k : Nat) (L : List Rec) (al : Rec), k ≤ m ∧ i = .int .i64 k ∧ wr.ownsRow B 29 9 u L.length (dcells L) ∧ (∀ r ∈ L, r.ok) ∧ L.length ≤ 1 + 6 * k ∧ wr.heap[ga]? = some (recB al) ∧ al.ok ∧ u.ownBlock ≠ some ga ∧ Below B W3 wr) (fun _ i _ => m - (Lib.intOf i).toNat)
  case atStart => exact ⟨0, [d'], d', Nat.zero_le _, rfl, HO3.out, fun r hr => by rw [List.mem_singleton.1 hr]; exact HDK.out, by simp, HA3.out, HDK.out, HU0.out, Below.refl _ _⟩
  case round =>
    obtain ⟨k, L, al, hk, rfl, ho, hlk, hll, hal, halk, hua, hb⟩ := hrel
    obtain ⟨bx, bd, bw⟩ := HRG.out wr hb
    have HO := Lib.hid ho
    have HLK := Lib.hid hlk
    have HAL := Lib.hid hal
    have HAK := Lib.hid halk
    have HUA := Lib.hid hua
    have HBr := Lib.hid hb
    have HBx := Lib.hid bx
    have HBd := Lib.hid bd
    have HBw := Lib.hid bw
    have hsz : B < wr.heap.size := Nat.lt_of_lt_of_le hBW3 hb.size
    clear ho hlk hal halk hua hb bx bd bw HO3 HA3 HU0
    obtain ⟨x0, x1, x2, x3⟩ := rbox HBx.out
    by_cases hlt : k < m
    · have hlt2 : k < x.conds.length := by rw [← HM.out]; exact hlt
      obtain ⟨b, off, rfl, hbw, e0, e1, e2, e3⟩ := HROW.out k hlt2
      obtain ⟨c, hc⟩ : ∃ c, c = x.conds[k] := ⟨_, rfl⟩
      have hck : c.ok := by rw [hc]; exact HXK.out.2.2.2 _ (List.getElem_mem hlt2)
      rw [← hc] at e0 e1 e2 e3
      replace e0 := (HBw.out.cell (p := ⟨b, _, none⟩) hbw).trans e0
      replace e1 := (HBw.out.cell (p := ⟨b, _, none⟩) hbw).trans e1
      replace e2 := (HBw.out.cell (p := ⟨b, _, none⟩) hbw).trans e2
      replace e3 := (HBw.out.cell (p := ⟨b, _, none⟩) hbw).trans e3
      have l0 : (k : Int) < (m : Int) := by omega
      have l1 : (0 : Int) ≤ (k : Int) := by omega
      have l2 : (k : Int).toNat = k := by omega
      have HCK := Lib.hid hck
      clear hc hck
      go_upto_region 9 with fail
      change Code.wp _ _ _ _ (wr.alloc (cdB c))
      obtain ⟨V, hV, X0, hbv⟩ : ∃ V, V = wr.alloc (cdB c) ∧ V.heap[wr.heap.size]? = some (cdB c) ∧ Below wr.heap.size wr V := ⟨_, rfl, heap_alloc_new _ _, ba _ (Below.refl _ _)⟩
      rw [← hV]
      have HV := Lib.hid X0
      have HBv := Lib.hid (HBr.out.trans (hbv.mono (by omega)))
      have HOv := Lib.hid (own_below HO.out hbv)
      have HALv := Lib.hid (kb hbv HAL.out)
      obtain ⟨gc, hgc⟩ : ∃ g, g = wr.heap.size := ⟨_, rfl⟩
      have hgB : B < gc := by omega
      have hUC : u5.ownBlock ≠ some gc := fun h => by have := (HO.out.lt gc h).2; omega
      have HUC := Lib.hid hUC
      rw [← hgc] at HV ⊢
      have hgac : ga ≠ gc := by have := lt_of_block HAL.out; omega
      clear hV X0 hbv hgc hUC e0 e1 e2 e3 x0 x1 x2 x3 HO HAL HBr HBx HBd HBw
      obtain ⟨bx, bd, bw⟩ := HRG.out V HBv.out
      have HBx := Lib.hid bx
      have HBd := Lib.hid bd
      have HBw := Lib.hid bw
      clear bx bd bw
      have cc := HV.out
      have v0 : V.cell? ⟨gc, 0, none⟩ = some (.int .i64 c.arg) := cell_in cc 0
      have v3 : V.cell? ⟨gc, 3, none⟩ = some (.int .u64 (c.value : Nat)) := cell_in cc 3
      clear cc
      by_cases a0 : c.arg < 0
      · go_wp2_with fail
        go_roundw
        case rel => exact ⟨k + 1, L, al, by omega, by go_num, HOv.out, HLK.out, by omega, HALv.out, HAK.out, HUA.out, HBv.out⟩
        case measure => simp [Lib.intOf]; omega
      by_cases a5 : 5 < c.arg
      · go_wp2_with fail
        go_roundw
        case rel => exact ⟨k + 1, L, al, by omega, by go_num, HOv.out, HLK.out, by omega, HALv.out, HAK.out, HUA.out, HBv.out⟩
        case measure => simp [Lib.intOf]; omega
      obtain ⟨n, hn⟩ : ∃ n : Nat, c.arg = (n : Int) := ⟨c.arg.toNat, by omega⟩
      have hn5 : n ≤ 5 := by omega
      rw [hn] at v0
      clear a0 a5
      go_wp2_with fail
      go_loopw [5, 9] (fun u i wr => ∃ (q : Nat) (L' : List Rec), q ≤ 3 ∧ i = .int .u64 q ∧ wr.ownsRow B 29 9 u L'.length (dcells L') ∧ (∀ r ∈ L', r.ok) ∧ L'.length ≤ 1 + 6 * k + 2 * q ∧ wr.heap[ga]? = some (recB al) ∧ wr.heap[gc]? = some (cdB c) ∧ u.ownBlock ≠ some ga ∧ u.ownBlock ≠ some gc ∧ Below B W3 wr) (fun _ i _ => 3 - (Lib.intOf i).toNat)
      case atStart => exact ⟨0, L, Nat.zero_le _, rfl, HOv.out, HLK.out, by omega, HALv.out, HV.out, HUA.out, HUC.out, HBv.out⟩
      case round =>
        obtain ⟨q, L', hq, rfl, ho, hlk, hll', hal, hcc, hua, huc, hb⟩ := hrel
        obtain ⟨bx, bd, bw⟩ := HRG.out _ hb
        have HO1 := Lib.hid ho
        have HLK1 := Lib.hid hlk
        have HAL1 := Lib.hid hal
        have HC1 := Lib.hid hcc
        have HUA1 := Lib.hid hua
        have HUC1 := Lib.hid huc
        have HB1 := Lib.hid hb
        have HD1 := Lib.hid bd
        have hs1 := Nat.lt_of_lt_of_le hBW3 hb.size
        clear ho hlk hal hcc hua huc hb bx bd bw v0 v3 HOv HALv HBv HBx HBd HBw HUC HV
        by_cases hq3 : q < 3
        · obtain ⟨d0, d1, d2, d3, d4, d5, d6, d7, d8⟩ := rec_cells HD1.out
          have hq4 : (q : Int) < 3 := by omega
          go_upto_region 14 with fail
          change Code.wp _ _ _ _ (wr.alloc (recB d'))
          obtain ⟨V1, hV1, X0, hbv⟩ : ∃ V, V = wr.alloc (recB d') ∧ V.heap[wr.heap.size]? = some (recB d') ∧ Below wr.heap.size wr V := ⟨_, rfl, heap_alloc_new _ _, ba _ (Below.refl _ _)⟩
          rw [← hV1]
          have HE2 := Lib.hid X0
          have HB2' := Lib.hid (HB1.out.trans (hbv.mono (by omega)))
          have HO2 := Lib.hid (own_below HO1.out hbv)
          have HAL2 := Lib.hid (kb hbv HAL1.out)
          have HC2 := Lib.hid (kb hbv HC1.out)
          obtain ⟨ge, hge⟩ : ∃ g, g = wr.heap.size := ⟨_, rfl⟩
          have HUE := Lib.hid (show u5.ownBlock ≠ some ge from fun h => by have := (HO1.out.lt ge h).2; omega)
          have ne1 : ga ≠ ge := by have := lt_of_block HAL1.out; omega
          have ne2 : gc ≠ ge := by have := lt_of_block HC1.out; omega
          have hgeB : B < ge := by omega
          rw [← hge] at HE2 ⊢
          clear hV1 X0 hbv hge d0 d1 d2 d3 d4 d5 d6 d7 d8 HO1 HAL1 HC1 HB1
          have cc := HC2.out
          have v0 : V1.cell? ⟨gc, 0, none⟩ = some (.int .i64 c.arg) := cell_in cc 0
          have v3 : V1.cell? ⟨gc, 3, none⟩ = some (.int .u64 (c.value : Nat)) := cell_in cc 3
          rw [hn] at v0
          have f3 := free_in HE2.out (3 + n)
          obtain ⟨u, c3⟩ : ∃ u, V1.cell? ⟨ge, 3 + n, none⟩ = some u := ⟨_, (cell_in HE2.out (3 + n)).trans (Array.getElem?_eq_getElem (by simp; omega))⟩
          have n0 : (n : Int) < 6 := by omega
          have n1 : (0 : Int) ≤ (n : Int) := by omega
          have n2 : (n : Int).toNat = n := by omega
          have hgl : ge < V1.heap.size := lt_of_block HE2.out
          clear cc
          go_upto_region 15 with fail
          obtain ⟨Ea, hE, hElt⟩ : ∃ E : Nat, IntKind.u64.wrap (IntKind.u64.wrap ((c.value : Int) + (q : Int)) - 1) = (E : Int) ∧ E < 18446744073709551616 := wrap_nat _
          rw [hE]
          have hput := put_arg HE2.out hn5 Ea
          obtain ⟨Wa, hWa⟩ : ∃ V, V = V1.setCell ⟨ge, 3 + n, none⟩ (.int .u64 (Ea : Nat)) := ⟨_, rfl⟩
          rw [← hWa] at hput ⊢
          obtain ⟨ra, hra⟩ : ∃ r, r = argSet d' n Ea := ⟨_, rfl⟩
          have HRa := Lib.hid (show ra.ok by rw [hra]; exact argSet_ok HDK.out n hElt)
          rw [← hra] at hput
          have HEa := Lib.hid hput.row
          have HBa := Lib.hid (hput.below HB2'.out (by omega))
          have HALa := Lib.hid (hput.keep ne1 HAL2.out)
          have HCa := Lib.hid (hput.keep ne2 HC2.out)
          have HOa := Lib.hid (own_stay HO2.out hput HUE.out)
          have hgla : ge < Wa.heap.size := lt_of_block HEa.out
          clear hE hElt hWa hra hput v0 v3 f3 c3
          obtain ⟨d0, d1, d2, d3, d4, d5, d6, d7, d8⟩ := rec_cells HEa.out
          have hbn := ba (recB ra) (Below.refl Wa.heap.size Wa)
          have HOn := Lib.hid (own_below HOa.out hbn)
          have HNx := Lib.hid (new_at Wa ra.cells 29)
          have hsn := hbn.size
          have hBn : B ≤ (Wa.alloc (recB ra)).heap.size := Nat.le_trans (by omega) hsn
          go_wp2_with (at_builtin; refine wpList_append_apartG rfl _ _ 41 rfl B 29 i0 (.agg #[.int .u32 0, .int .u32 0, .int .u64 0, .int .u64 0, .int .u64 0, .int .u64 0, .int .u64 0, .int .u64 0, .int .u64 0]) 9 64 Tryz.underlying41 hi hz0 hz1 hz2 rfl (by decide) _ L'.length (dcells L') rfl HOn.out ⟨Wa.heap.size, 0, none⟩ 1 rfl ra.cells.toList rfl HNx.out (rec_one ra) (by unfold maxLen; omega) (by omega) hBn ?_)
          intro ub Wb hown hgrow hap
          have HOb : Hid (Wb.ownsRow B 29 9 ub (L' ++ [ra]).length (dcells (L' ++ [ra]))) := Lib.hid (by
            rw [dcells_app, dcells_one, List.length_append]
            exact hown)
          have HLKb : Hid (∀ r ∈ L' ++ [ra], r.ok) := Lib.hid (fun r hr => by
            rcases List.mem_append.1 hr with h | h
            · exact HLK1.out r h
            · rw [List.mem_singleton.1 h]; exact HRa.out)
          have hLl : (L' ++ [ra]).length = L'.length + 1 := by rw [List.length_append]; rfl
          obtain ⟨Lb, hLb⟩ : ∃ l, l = L' ++ [ra] := ⟨_, rfl⟩
          rw [← hLb] at HOb HLKb hLl
          have hLlb : Lb.length = L'.length + 1 := hLl
          have HBb := Lib.hid (grown_below (HBa.out.trans (hbn.mono (by omega))) HOn.out hgrow hBn)
          have hkeep : ∀ k o, u5.ownBlock ≠ some k → Wa.heap[k]? = some o → Wb.heap[k]? = some o := fun k o hk ho => (hgrow.block k (Nat.lt_of_lt_of_le (lt_of_block ho) hsn) (fun h => hk h.symm)).trans ((hbn.block k (lt_of_block ho)).trans ho)
          have HALb := Lib.hid (hkeep ga _ HUA1.out HALa.out)
          have HCb := Lib.hid (hkeep gc _ HUC1.out HCa.out)
          have HEb := Lib.hid (hkeep ge _ HUE.out HEa.out)
          have hnb : ∀ k, k < Wa.heap.size → u5.ownBlock ≠ some k → ub.ownBlock ≠ some k := fun k hk hu h => by
            rcases hap k h with h | h
            · exact hu h
            · have := Nat.lt_of_lt_of_le hk hsn
              omega
          have HUAb := Lib.hid (hnb ga (lt_of_block HALa.out) HUA1.out)
          have HUCb := Lib.hid (hnb gc (lt_of_block HCa.out) HUC1.out)
          have HUEb := Lib.hid (hnb ge hgla HUE.out)
          clear hown hgrow hap hLl hLb hkeep hnb hbn hsn hBn d0 d1 d2 d3 d4 d5 d6 d7 d8 HOn HNx
          have cc2 := HCb.out
          have v0 : Wb.cell? ⟨gc, 0, none⟩ = some (.int .i64 c.arg) := cell_in cc2 0
          have v3 : Wb.cell? ⟨gc, 3, none⟩ = some (.int .u64 (c.value : Nat)) := cell_in cc2 3
          rw [hn] at v0
          have f3 := free_in HEb.out (3 + n)
          obtain ⟨u, c3⟩ : ∃ u, Wb.cell? ⟨ge, 3 + n, none⟩ = some u := ⟨_, (cell_in HEb.out (3 + n)).trans (Array.getElem?_eq_getElem (by simp; omega))⟩
          clear cc2
          go_upto_region 17 with fail
          obtain ⟨Ec, hE, hElt⟩ : ∃ E : Nat, IntKind.u64.wrap ((c.value : Int) + IntKind.u64.wrap (IntKind.u64.wrap ((q : Int) - 1) * 4294967296)) = (E : Int) ∧ E < 18446744073709551616 := wrap_nat _
          rw [hE]
          have hput := put_arg HEb.out hn5 Ec
          obtain ⟨Wc, hWa⟩ : ∃ V, V = Wb.setCell ⟨ge, 3 + n, none⟩ (.int .u64 (Ec : Nat)) := ⟨_, rfl⟩
          rw [← hWa] at hput ⊢
          obtain ⟨rc, hra⟩ : ∃ r, r = argSet ra n Ec := ⟨_, rfl⟩
          have HRc := Lib.hid (show rc.ok by rw [hra]; exact argSet_ok HRa.out n hElt)
          rw [← hra] at hput
          have HEc := Lib.hid hput.row
          have HBc := Lib.hid (hput.below HBb.out (by omega))
          have HALc := Lib.hid (hput.keep ne1 HALb.out)
          have HCc := Lib.hid (hput.keep ne2 HCb.out)
          have HOc := Lib.hid (own_stay HOb.out hput HUEb.out)
          have hglc : ge < Wc.heap.size := lt_of_block HEc.out
          clear hE hElt hWa hra hput v0 v3 f3 c3
          obtain ⟨d0, d1, d2, d3, d4, d5, d6, d7, d8⟩ := rec_cells HEc.out
          have hbn := ba (recB rc) (Below.refl Wc.heap.size Wc)
          have HOn := Lib.hid (own_below HOc.out hbn)
          have HNx := Lib.hid (new_at Wc rc.cells 29)
          have hsn := hbn.size
          have hBn : B ≤ (Wc.alloc (recB rc)).heap.size := Nat.le_trans (by omega) hsn
          go_wp2_with (at_builtin; refine wpList_append_apartG rfl _ _ 41 rfl B 29 i0 (.agg #[.int .u32 0, .int .u32 0, .int .u64 0, .int .u64 0, .int .u64 0, .int .u64 0, .int .u64 0, .int .u64 0, .int .u64 0]) 9 64 Tryz.underlying41 hi hz0 hz1 hz2 rfl (by decide) _ Lb.length (dcells Lb) rfl HOn.out ⟨Wc.heap.size, 0, none⟩ 1 rfl rc.cells.toList rfl HNx.out (rec_one rc) (by unfold maxLen; omega) (by omega) hBn ?_)
          intro ud Wd hown hgrow hap
          have HOd : Hid (Wd.ownsRow B 29 9 ud (Lb ++ [rc]).length (dcells (Lb ++ [rc]))) := Lib.hid (by
            rw [dcells_app, dcells_one, List.length_append, hLlb]
            exact hown)
          have HLKd : Hid (∀ r ∈ Lb ++ [rc], r.ok) := Lib.hid (fun r hr => by
            rcases List.mem_append.1 hr with h | h
            · exact HLKb.out r h
            · rw [List.mem_singleton.1 h]; exact HRc.out)
          have hLl : (Lb ++ [rc]).length = Lb.length + 1 := by rw [List.length_append]; rfl
          obtain ⟨Ld, hLb⟩ : ∃ l, l = Lb ++ [rc] := ⟨_, rfl⟩
          rw [← hLb] at HOd HLKd hLl
          have hLld : Ld.length = Lb.length + 1 := hLl
          have HBd := Lib.hid (grown_below (HBc.out.trans (hbn.mono (by omega))) HOn.out hgrow hBn)
          have hkeep : ∀ k o, ub.ownBlock ≠ some k → Wc.heap[k]? = some o → Wd.heap[k]? = some o := fun k o hk ho => (hgrow.block k (Nat.lt_of_lt_of_le (lt_of_block ho) hsn) (fun h => hk h.symm)).trans ((hbn.block k (lt_of_block ho)).trans ho)
          have HALd := Lib.hid (hkeep ga _ HUAb.out HALc.out)
          have HCd := Lib.hid (hkeep gc _ HUCb.out HCc.out)
          have HEd := Lib.hid (hkeep ge _ HUEb.out HEc.out)
          have hnb : ∀ k, k < Wc.heap.size → ub.ownBlock ≠ some k → ud.ownBlock ≠ some k := fun k hk hu h => by
            rcases hap k h with h | h
            · exact hu h
            · have := Nat.lt_of_lt_of_le hk hsn
              omega
          have HUAd := Lib.hid (hnb ga (lt_of_block HALc.out) HUAb.out)
          have HUCd := Lib.hid (hnb gc (lt_of_block HCc.out) HUCb.out)
          have HUEd := Lib.hid (hnb ge hglc HUEb.out)
          clear hown hgrow hap hLl hLb hkeep hnb hbn hsn hBn d0 d1 d2 d3 d4 d5 d6 d7 d8 HOn HNx
          go_wp2_with fail
          go_roundw
          case rel => exact ⟨q + 1, Ld, by omega, by go_num, HOd.out, HLKd.out, by omega, HALd.out, HCd.out, HUAd.out, HUCd.out, HBd.out⟩
          case measure => simp [Lib.intOf]; omega
        · obtain rfl : q = 3 := by omega
          have hgl : ga < wr.heap.size := lt_of_block HAL1.out
          have cc := HC1.out
          have v0 : wr.cell? ⟨gc, 0, none⟩ = some (.int .i64 c.arg) := cell_in cc 0
          have v3 : wr.cell? ⟨gc, 3, none⟩ = some (.int .u64 (c.value : Nat)) := cell_in cc 3
          rw [hn] at v0
          have f3 := free_in HAL1.out (3 + n)
          obtain ⟨u, c3⟩ : ∃ u, wr.cell? ⟨ga, 3 + n, none⟩ = some u := ⟨_, (cell_in HAL1.out (3 + n)).trans (Array.getElem?_eq_getElem (by simp; omega))⟩
          have n0 : (n : Int) < 6 := by omega
          have n1 : (0 : Int) ≤ (n : Int) := by omega
          have n2 : (n : Int).toNat = n := by omega
          have hput := put_arg HAL1.out hn5 c.value
          have HPut := Lib.hid hput
          have HAO := Lib.hid (argSet_ok HAK.out n HCK.out.2)
          clear cc hput
          go_wp2_with fail
          go_roundw
          case rel => exact ⟨k + 1, L', argSet al n c.value, by omega, by go_num, own_stay HO1.out HPut.out HUA1.out, HLK1.out, by omega, HPut.out.row, HAO.out, HUA1.out, HPut.out.below HB1.out (by omega)⟩
          case measure => simp [Lib.intOf]; omega
    · obtain rfl : k = m := by omega
      obtain ⟨d0, d1, d2, d3, d4, d5, d6, d7, d8⟩ := rec_cells HAL.out
      have hgl : ga < wr.heap.size := lt_of_block HAL.out
      have hbn := ba (recB al) (Below.refl wr.heap.size wr)
      have HOn := Lib.hid (own_below HO.out hbn)
      have HNx := Lib.hid (new_at wr al.cells 29)
      have hsn := hbn.size
      have hBn : B ≤ (wr.alloc (recB al)).heap.size := Nat.le_trans (by omega) hsn
      have HBn := Lib.hid (HBr.out.trans (hbn.mono (by omega)))
      clear hbn
      go_wp2_with (at_builtin; refine wpList_append_apartG rfl _ _ 41 rfl B 29 i0 (.agg #[.int .u32 0, .int .u32 0, .int .u64 0, .int .u64 0, .int .u64 0, .int .u64 0, .int .u64 0, .int .u64 0, .int .u64 0]) 9 64 Tryz.underlying41 hi hz0 hz1 hz2 rfl (by decide) _ L.length (dcells L) rfl HOn.out ⟨wr.heap.size, 0, none⟩ 1 rfl al.cells.toList rfl HNx.out (rec_one al) (by unfold maxLen; omega) (by omega) hBn ?_)
      intro uz Wz hown hgrow _
      have HZ : Hid (DsAt Wz uz (L ++ [al])) := Lib.hid (DsAt.own (n := L.length + 1) (by rw [dcells_app, dcells_one]; exact hown) (by rw [List.length_append]; rfl))
      have HLZ : Hid ((∀ r ∈ L ++ [al], r.ok) ∧ (L ++ [al]).length ≤ 200) := Lib.hid ⟨fun r hr => by
        rcases List.mem_append.1 hr with h | h
        · exact HLK.out r h
        · rw [List.mem_singleton.1 h]; exact HAK.out, by rw [List.length_append, List.length_singleton]; omega⟩
      have HBz := Lib.hid (grown_below HBn.out HOn.out hgrow hBn)
      clear hown hgrow d0 d1 d2 d3 d4 d5 d6 d7 d8
      go_wp2_with fail
      go_ret
      exact ⟨⟨_, _, rfl, HZ.out, HLZ.out⟩, (HRG.out _ HBz.out).2.2⟩
end Go.Proofs.YtbekkdhlfkongaaGreatDoor
/-
  What grouped answers: rules by their numbers.
-/
namespace Go.Proofs.YtbekkdhlfkongaaGreatDoor
open Go.ChangeShapes Go.WideShapes Go.ChangeAt Go.RowKit Go.Shelf
set_option maxRecDepth 20000

/-- Where a group's rules lie. -/
def SrcR (B b : Nat) (w : World) (p : Gr × Value) : Prop :=
  ∃ rl : List (Rl × Value), p.1.2 = rl.map (·.1) ∧ (∀ q ∈ rl, ∃ ao k cap, q.2 = .slice ao k cap) ∧ LStay B b w (fun V => SlR V p.2 rl.length (fun j => (rl[j]?.map fun p => [.int .u32 (p.1.arch : Nat), .int .u32 (p.1.nr : Nat), p.2, .int .u32 (p.1.act : Nat)]).getD [])) ∧
    ∀ q ∈ rl, LStay B b w (fun V => CAt V q.2 q.1.conds)
theorem SrcR.next {B b : Nat} {w w' : World} {p : Gr × Value} (h : SrcR B b w p) (hr : LR B b w w') : SrcR B b w' p := by
  obtain ⟨rl, h1, h2, h3, h4⟩ := h
  exact ⟨rl, h1, h2, h3.next hr, fun q hq => (h4 q hq).next hr⟩
def KeyF (kf : Nat) (key : Rl → Nat) : Prop := (kf = 29 ∧ key = Rl.arch) ∨ (kf = 56 ∧ key = Rl.nr)
theorem archOf_any (x : Rl) (cv : Value) (w : World) : Calls Tryz.prog 29 #[x.val cv] w fun e w' => e = .returned (.int .u32 (x.arch : Nat)) ∧ Below w.heap.size w w' := by
  go_enter Tryz.func29, Tryz.ntmps29
  go_wp2_with fail
  go_ret
  exact ⟨rfl, ba _ (Below.refl _ _)⟩
theorem nrOf_any (x : Rl) (cv : Value) (w : World) : Calls Tryz.prog 56 #[x.val cv] w fun e w' => e = .returned (.int .u32 (x.nr : Nat)) ∧ Below w.heap.size w w' := by
  go_enter Tryz.func56, Tryz.ntmps56
  go_wp2_with fail
  go_ret
  exact ⟨rfl, ba _ (Below.refl _ _)⟩

/-! ### The rules of a number, while the map is filled -/
def filG (key : Rl → Nat) (l : List (Rl × Value)) (a : Nat) : List (Rl × Value) := l.filter (fun p => key p.1 == a)
theorem filG_snoc (key : Rl → Nat) (l : List (Rl × Value)) (p : Rl × Value) (a : Nat) : filG key (l ++ [p]) a = filG key l a ++ if key p.1 = a then [p] else [] := by
  unfold filG
  rw [List.filter_append]
  congr 1
  by_cases h : key p.1 = a <;> simp [h]
structure GInv (base : Nat) (key : Rl → Nat) (mb : Nat) (l : List (Rl × Value)) (D : DataW Value) (F : Nat → Option Value) (W : World) : Prop where
  map : W.ownsMap Tryz.prog 23 fnR mb l.length D
  says : MapsTo D F
  known : ∀ a, (F a).isSome = true ↔ a ∈ (l.map (·.1)).map key
  row : ∀ a v, F a = some v → W.ownsRow base 45 4 v (filG key l a).length (qcells ((filG key l a).map rlQ))
  apart : ∀ a a' v v', a ≠ a' → F a = some v → F a' = some v' → ∀ g, v.ownBlock = some g → v'.ownBlock ≠ some g
theorem GInv.at_ {base : Nat} {key : Rl → Nat} {mb : Nat} {l : List (Rl × Value)} {D : DataW Value} {F : Nat → Option Value} {W : World} (h : GInv base key mb l D F W) (a : Nat) : W.ownsRow base 45 4 ((F a).getD (.slice none 0 0)) (filG key l a).length (qcells ((filG key l a).map rlQ)) := by
  cases hF : F a with
  | some v => exact h.row a v hF
  | none =>
    have h0 : filG key l a = [] := by
      refine List.filter_eq_nil_iff.2 fun p hp e => ?_
      have := (h.known a).2 (by rw [List.map_map]; exact List.mem_map.2 ⟨p, hp, by simpa using e⟩)
      rw [hF] at this
      cases this
    rw [h0]
    exact ⟨rfl, .inl ⟨rfl, rfl⟩⟩
theorem GInv.below {base : Nat} {key : Rl → Nat} {mb : Nat} {l : List (Rl × Value)} {D : DataW Value} {F : Nat → Option Value} {W W' : World} (h : GInv base key mb l D F W) (hb : Below W.heap.size W W') : GInv base key mb l D F W' :=
  ⟨own_map_u32 h.map (hb.block _ h.map.lt), h.says, h.known, fun a v hv => own_below (h.row a v hv) hb, h.apart⟩
theorem own_block_cells {w : World} {base : Nat} {e : TypeId} {size : Nat} {v : Value} {n : Nat} {xs : List Value} (h : w.ownsRow base e size v n xs) {g : Nat} (hg : v.ownBlock = some g) : ∃ cs, w.heap[g]? = some (.cells cs e) := by
  rcases h.2 with ⟨rfl, _⟩ | ⟨g', cap, cur, rfl, _, hh, _⟩
  · simp [Value.ownBlock] at hg
  · obtain rfl : g' = g := by simpa [Value.ownBlock] using hg
    exact ⟨_, hh⟩
theorem map_not_row {w : World} {base : Nat} {e : TypeId} {size : Nat} {v : Value} {n k mb : Nat} {xs : List Value} {D : DataW Value} (h : w.ownsRow base e size v n xs) (hm : w.ownsMap Tryz.prog 23 fnR mb k D) : some mb ≠ v.ownBlock := by
  intro e
  obtain ⟨cs, hc⟩ := own_block_cells h e.symm
  obtain ⟨es, clock, hh, _⟩ := hm
  rw [hc] at hh
  cases hh
theorem row_keep_map {w w' : World} {base : Nat} {e : TypeId} {size : Nat} {v : Value} {n k mb : Nat} {xs : List Value} {D : DataW Value} (h : w.ownsRow base e size v n xs) (hm : w.ownsMap Tryz.prog 23 fnR mb k D) (hg : w.grownBy w' (some mb)) : w'.ownsRow base e size v n xs :=
  h.kept hg (.inr (fun e => map_not_row h hm e.symm))
/-- A rule more. -/
theorem GInv.step {base : Nat} {key : Rl → Nat} {mb : Nat} {l : List (Rl × Value)} {D : DataW Value} {F : Nat → Option Value} {W W3 w4 w5 : World} (h : GInv base key mb l D F W) {p : Rl × Value} {v' : Value} (hb : Below W.heap.size W W3) (u : Value) (hu : u = (F (key p.1)).getD (.slice none 0 0))
    (hown : w4.ownsRow base 45 4 v' ((filG key l (key p.1)).length + 1) (qcells ((filG key l (key p.1)).map rlQ) ++ V4.cells (rlQ p))) (hgrow : W3.grownBy w4 u.ownBlock) (hap : ∀ k, v'.ownBlock = some k → u.ownBlock = some k ∨ W3.heap.size ≤ k)
    (hm5 : w5.ownsMap Tryz.prog 23 fnR mb (l.length + 1) (D.put (keyU (key p.1)) (.held v'))) (hm4 : w4.ownsMap Tryz.prog 23 fnR mb l.length D) (hg5 : w4.grownBy w5 (some mb)) :
    GInv base key mb (l ++ [p]) (D.put (keyU (key p.1)) (.held v')) (putF F (key p.1) v') w5 := by
  have hF : ∀ a, a ≠ key p.1 → putF F (key p.1) v' a = F a := fun a ha => by unfold putF; rw [if_neg ha]
  have hFs : putF F (key p.1) v' (key p.1) = some v' := by unfold putF; rw [if_pos rfl]
  refine ⟨by rw [List.length_append]; exact hm5, mapsTo_put h.says _ _, fun a => ?_, fun a v hv => ?_, fun a a' v v2 hne hv hv2 g hg => ?_⟩
  · rw [List.map_append, List.map_append, List.mem_append]
    by_cases e : a = key p.1
    · subst e
      rw [hFs]
      simp
    · rw [hF a e, h.known a]
      simp [e]
  · by_cases e : a = key p.1
    · subst e
      rw [hFs] at hv
      cases hv
      rw [filG_snoc, if_pos rfl, List.length_append, List.map_append, qcells_app]
      have hc : qcells ([p].map rlQ) = V4.cells (rlQ p) := by rw [List.map_singleton, qcells_one]
      rw [hc]
      exact row_keep_map hown hm4 hg5
    · rw [hF a e] at hv
      rw [filG_snoc, if_neg (fun e' => e e'.symm), List.append_nil]
      have h3 := own_below (h.row a v hv) hb
      have h4 : w4.ownsRow base 45 4 v (filG key l a).length (qcells ((filG key l a).map rlQ)) := by
        refine h3.kept hgrow ?_
        cases hvb : v.ownBlock with
        | none => exact .inl rfl
        | some g =>
          right
          cases hk : F (key p.1) with
          | none => rw [hu, hk]; simp [Value.ownBlock]
          | some u0 =>
            have hu0 : u = u0 := by rw [hu, hk]; rfl
            subst hu0
            exact fun e' => h.apart a (key p.1) v u e hv hk g hvb e'.symm
      exact row_keep_map h4 hm4 hg5
  · have hold : ∀ a v, F a = some v → ∀ g, v.ownBlock = some g → g < W3.heap.size := fun a v hv g hg => by
      obtain ⟨cs, hc⟩ := own_block_cells (h.row a v hv) hg
      exact Nat.lt_of_lt_of_le (lt_of_block hc) hb.size
    have hnew : ∀ a v, a ≠ key p.1 → F a = some v → ∀ g, v.ownBlock = some g → v'.ownBlock ≠ some g := fun a v ha hv g hg e => by
      rcases hap g e with e' | e'
      · cases hk : F (key p.1) with
        | none => rw [hu, hk] at e'; simp [Value.ownBlock] at e'
        | some u0 =>
          have hu0 : u = u0 := by rw [hu, hk]; rfl
          subst hu0
          exact h.apart a (key p.1) v u ha hv hk g hg e'
      · have := hold a v hv g hg
        omega
    by_cases e1 : a = key p.1
    · subst e1
      rw [hFs] at hv
      cases hv
      rw [hF a' (fun e => hne e.symm)] at hv2
      intro e
      exact hnew a' v2 (fun e => hne e.symm) hv2 g e hg
    · rw [hF a e1] at hv
      by_cases e2 : a' = key p.1
      · subst e2
        rw [hFs] at hv2
        cases hv2
        exact hnew a v e1 hv g hg
      · rw [hF a' e2] at hv2
        exact h.apart a a' v v2 hne hv hv2 g hg
theorem eraseDups_len : ∀ (n : Nat) (l : List Nat), l.length ≤ n → l.eraseDups.length ≤ l.length
  | _, [], _ => by simp
  | 0, a :: l, h => by simp at h
  | n + 1, a :: l, h => by
    rw [List.eraseDups_cons, List.length_cons, List.length_cons]
    have h1 := List.length_filter_le (fun b => !(b == a)) l
    simp only [List.length_cons] at h
    have h2 := eraseDups_len n (l.filter (fun b => !(b == a))) (by omega)
    omega
theorem keysOf_len (l : List Nat) : (keysOf l).length ≤ l.length := by
  unfold keysOf
  rw [List.length_mergeSort]
  exact eraseDups_len _ _ (Nat.le_refl _)
theorem own_slice {base : Nat} {w : World} {v : Value} {n : Nat} {e : TypeId} {size : Nat} {xs : List Value} (h : w.ownsRow base e size v n xs) : ∃ ao cap, v = .slice ao n cap := by
  rcases h.2 with ⟨rfl, rfl⟩ | ⟨g, cap, _, rfl, _⟩
  · exact ⟨_, _, rfl⟩
  · exact ⟨_, _, rfl⟩
theorem row_none {base : Nat} {w : World} {ao : Option Addr} {n m cap : Nat} {e : TypeId} {size : Nat} {xs : List Value} (h : w.ownsRow base e size (.slice ao n cap) m xs) (h0 : 0 < m) : ∃ g, ao = some ⟨g, 0, none⟩ := by
  rcases h.2 with ⟨e, rfl⟩ | ⟨g, cap, _, e, _⟩
  · omega
  · cases e; exact ⟨_, rfl⟩
theorem zeroL (w : World) : (zeroValue 22).run Tryz.prog w = .ok (.slice none 0 0) w := by kernel_rfl
theorem look_by {w : World} {m n : Nat} {D : DataW Value} {F : Nat → Option Value} (h : w.ownsMap Tryz.prog 23 fnR m n D) (hM : MapsTo D F) (a : Nat) (ha : a < 4294967296) :
    (Instr.lookup 105 (.map (some m)) (.int .u32 (a : Nat)) false).run Tryz.prog w = .ok ((F a).getD (.slice none 0 0)) w := by
  obtain ⟨v, ps, hr, hv⟩ := h.lookup keyU_keyed Tryz.underlying105 (zeroL w) (zd := .held (.slice none 0 0)) (zp := []) rfl (keyOfU ha)
  rw [(hM.2 a).2] at hv
  unfold fnR at hv
  simp only [Option.some.injEq, Prod.mk.injEq, DataW.held.injEq] at hv
  rw [hr, hv.1]
theorem zinfoRl : (Tryz.prog.info? 45).map (fun i => (i.zero, i.size, i.bytes)) = some (some (.agg #[.int .u32 0, .int .u32 0, .slice none 0 0, .int .u32 0]), 4, 40) := by kernel_rfl
theorem infoGr : (Tryz.prog.info? 76).map (fun i => (i.zero, i.size, i.bytes)) = some (some (.agg #[.int .u32 0, .slice none 0 0]), 2, 32) := by kernel_rfl
theorem own_slR {base : Nat} {w : World} {v : Value} {rl : List (Rl × Value)} (h : w.ownsRow base 45 4 v rl.length (qcells (rl.map rlQ))) : SlR w v rl.length (fun j => (rl[j]?.map fun p => [.int .u32 (p.1.arch : Nat), .int .u32 (p.1.nr : Nat), p.2, .int .u32 (p.1.act : Nat)]).getD []) := by
  obtain ⟨ao, cap, e, h3⟩ := QAt.own h (by rw [List.length_map])
  rw [List.length_map] at e
  refine ⟨ao, cap, e, ?_⟩
  rcases h3 with h3 | ⟨g, off, rfl, _, hrow⟩
  · exact .inl (by have := congrArg List.length h3; simpa using this)
  · refine .inr ⟨g, off, rfl, fun j hj => ?_⟩
    obtain ⟨d0, d1, d2, d3⟩ := hrow j (by rw [List.length_map]; exact hj)
    simp only [List.getElem_map] at d0 d1 d2 d3
    simp only [List.getElem?_eq_getElem hj]
    exact ⟨d0, d1, d2, d3⟩
/-- A row of the call's own, in a block that no lowering turns. -/
theorem own_lrk {B b base : Nat} {w w' : World} {e : TypeId} {size : Nat} {v : Value} {n : Nat} {xs : List Value} (h : w.ownsRow base e size v n xs) (hr : LR B b w w') (hb : b < base) : w'.ownsRow base e size v n xs := by
  obtain ⟨h1, h2⟩ := h
  refine ⟨h1, h2.imp id ?_⟩
  rintro ⟨g, cap, cur, rfl, hg, hh, r⟩
  exact ⟨g, cap, cur, rfl, hg, hr.cells _ _ _ _ hh (by omega), r⟩
/-- The cells of groups. -/
def gcells (gl : List (Gr × Value)) : List Value := gl.flatMap (fun p => [.int .u32 (p.1.1 : Nat), p.2])
theorem gcells_app (l m : List (Gr × Value)) : gcells (l ++ m) = gcells l ++ gcells m := by simp [gcells]
theorem gcells_at (l : List (Gr × Value)) (i : Nat) (h : i < l.length) : (gcells l)[i * 2]? = some (.int .u32 ((l[i]).1.1 : Nat)) ∧ (gcells l)[i * 2 + 1]? = some (l[i]).2 := by
  induction l generalizing i with
  | nil => simp at h
  | cons x l ih =>
    have e : gcells (x :: l) = .int .u32 (x.1.1 : Nat) :: x.2 :: gcells l := by simp [gcells]
    rw [e]
    cases i with
    | zero => exact ⟨rfl, rfl⟩
    | succ i =>
      rw [show (i + 1) * 2 = i * 2 + 2 by omega]
      exact ih i (by simpa using h)
theorem own_slG {base : Nat} {w : World} {v : Value} {gl : List (Gr × Value)} (h : w.ownsRow base 76 2 v gl.length (gcells gl)) : SlG w v gl.length (fun j => (gl[j]?.map fun p => [.int .u32 (p.1.1 : Nat), p.2]).getD []) := by
  rcases h.2 with ⟨rfl, h0⟩ | ⟨g, cap, cur, rfl, _, hg, _⟩
  · exact ⟨none, 0, by rw [h0], .inl h0⟩
  · refine ⟨_, _, rfl, .inr ⟨g, 0, rfl, fun j hj => ?_⟩⟩
    obtain ⟨k0, k1⟩ := gcells_at gl j hj
    have hc := h.cells (g := g) rfl
    have c0 := hc (j * 2) _ k0
    have c1 := hc (j * 2 + 1) _ k1
    rw [add_plain] at c0 c1
    simp only [List.getElem?_eq_getElem hj]
    rw [Nat.zero_add] at c0 c1
    rw [Nat.zero_add]
    exact ⟨c0, c1⟩
theorem gmap_start (W : World) (base : Nat) (key : Rl → Nat) : GInv base key W.heap.size [] (.map []) (fun _ => none) (W.alloc (.map #[] 0)) :=
  ⟨World.ownsMap_made W Tryz.prog 23 fnR, mapsTo_nil, fun _ => by simp, fun _ _ h => (by cases h), fun _ _ _ _ _ h => (by cases h)⟩
/-- The groups, of so many numbers. -/
def groupL (key : Rl → Nat) (l : List (Rl × Value)) (F : Nat → Option Value) (ks : List Nat) : List (Gr × Value) := ks.map (fun a => ((a, (filG key l a).map (·.1)), (F a).getD (.slice none 0 0)))
theorem filG_map (key : Rl → Nat) (l : List (Rl × Value)) (a : Nat) : (filG key l a).map (·.1) = (l.map (·.1)).filter (fun x => key x == a) := by
  unfold filG
  rw [List.filter_map]
  rfl
set_option maxHeartbeats 16000000 in
set_option maxRecDepth 100000 in
theorem zgrouped_any {B b : Nat} {kf : Nat} {key : Rl → Nat} (hkf : KeyF kf key) (gv : Value) (g : Gr) (w : World) (hB : B ≤ w.heap.size) (hb : b < w.heap.size) (hs : SrcR B b w (g, gv)) (h64 : g.2.length ≤ 64) (hok : ∀ x ∈ g.2, x.ok) :
    Calls Tryz.prog 28 #[gv, .func (.func kf) #[] #[]] w fun e w' => (∃ (v : Value) (gl : List (Gr × Value)), e = .returned v ∧ gl.map (·.1) = groupsOf key g.2 ∧ (∀ q ∈ gl, ∃ ao k cap, q.2 = .slice ao k cap) ∧
      LStay B b w' (fun V => SlG V v gl.length (fun j => (gl[j]?.map fun p => [.int .u32 (p.1.1 : Nat), p.2]).getD [])) ∧ ∀ q ∈ gl, SrcR B b w' q) ∧ Below w.heap.size w w' := by
  obtain ⟨num, rs⟩ := g
  obtain ⟨l, hrs, hsh, hSl, hcond⟩ := hs
  simp only at hrs hSl h64 hok ⊢
  subst hrs
  rw [List.length_map] at h64
  obtain ⟨ao, cap, hgv, hx⟩ := hSl.now
  clear hx
  subst hgv
  obtain ⟨n, hn⟩ : ∃ n, n = l.length := ⟨_, rfl⟩
  have HN := Lib.hid hn
  have HSl := Lib.hid hSl
  have HSh := Lib.hid hsh
  have HCd := Lib.hid hcond
  have hkb : ∀ p ∈ l, key p.1 < 4294967296 := fun p hp => by
    have h := hok p.1 (List.mem_map_of_mem hp)
    rcases hkf with ⟨_, rfl⟩ | ⟨_, rfl⟩
    · exact h.1
    · exact h.2.1
  have HKB := Lib.hid hkb
  obtain ⟨i0, hi, hz0, hz1, hz2⟩ := info_parts zinfoRl
  obtain ⟨j0, hyi, hy0, hy1, hy2⟩ := info_parts infoGr
  have hmm := @run_makeMap Tryz.prog
  rw [← hn] at h64 ⊢
  clear hSl hsh hcond hok hkb hn
  have hkcase : (kf = 29 ∧ ∀ (x : Rl) (cv : Value) (W : World), Calls Tryz.prog 29 #[x.val cv] W fun e w' => e = .returned (.int .u32 (key x : Nat)) ∧ Below W.heap.size W w') ∨
      (kf = 56 ∧ ∀ (x : Rl) (cv : Value) (W : World), Calls Tryz.prog 56 #[x.val cv] W fun e w' => e = .returned (.int .u32 (key x : Nat)) ∧ Below W.heap.size W w') := by
    rcases hkf with ⟨rfl, rfl⟩ | ⟨rfl, rfl⟩
    · exact .inl ⟨rfl, archOf_any⟩
    · exact .inr ⟨rfl, nrOf_any⟩
  clear hkf
  rcases hkcase with ⟨rfl, hK⟩ | ⟨rfl, hK⟩
  all_goals
    have HK := Lib.hid hK
    clear hK
    go_enter Tryz.func28, Tryz.ntmps28
    go_upto_region 2 with fail
    obtain ⟨W0, hW0, hb0, hinv0, hsz0⟩ : ∃ V, V = w.alloc (.map #[] 0) ∧ Below w.heap.size w V ∧ GInv w.heap.size key w.heap.size [] (.map []) (fun _ => none) V ∧ V.heap.size = w.heap.size + 1 := ⟨_, rfl, ba _ (Below.refl _ _), gmap_start w w.heap.size key, size_alloc _ _⟩
    rw [← hW0]
    have HB0 := Lib.hid hb0
    have HI0 := Lib.hid hinv0
    obtain ⟨mb, hmb⟩ : ∃ mb, mb = w.heap.size := ⟨_, rfl⟩
    have HI0 : Hid (GInv w.heap.size key mb [] (.map []) (fun _ => none) W0) := Lib.hid (by rw [hmb]; exact HI0.out)
    have hmg : w.heap.size ≤ mb := by omega
    rw [← hmb]
    clear hW0 hb0 hinv0 hmm hmb
    go_wp2_with fail
    go_loopw [15] (fun i wr => ∃ k : Nat, k ≤ n ∧ i = .int .i64 k ∧ (∃ D F, GInv w.heap.size key mb (l.take k) D F wr) ∧ Below w.heap.size w wr) (fun i _ => n - (Lib.intOf i).toNat)
    case atStart => exact ⟨0, Nat.zero_le _, rfl, ⟨_, _, HI0.out⟩, HB0.out⟩
    case round =>
      obtain ⟨k, hk, rfl, ⟨D, F, hinv⟩, hbk⟩ := hrel
      have HINV := Lib.hid hinv
      have HBK := Lib.hid hbk
      clear hinv hbk
      by_cases hlt : k < n
      · have hlt' : k < l.length := by rw [← HN.out]; exact hlt
        obtain ⟨⟨x, cv⟩, hp⟩ : ∃ p, p = l[k] := ⟨_, rfl⟩
        obtain ⟨ao', cap', hsv', hcs⟩ := HSl.out wr (LR.of_below (HBK.out) hB)
        simp only [Value.slice.injEq] at hsv'
        obtain ⟨e1, e2, e3⟩ := hsv'
        subst e1
        obtain ⟨gr, off, e4, hrow⟩ := hcs.resolve_left (by omega)
        subst e4
        have hcj := hrow k hlt'
        simp only [List.getElem?_eq_getElem hlt', ← hp] at hcj
        have c0 : wr.cell? ⟨gr, off + k * 4, none⟩ = some (.int .u32 (x.arch : Nat)) := hcj.1
        have c1 : wr.cell? ⟨gr, off + k * 4 + 1, none⟩ = some (.int .u32 (x.nr : Nat)) := hcj.2.1
        have c2 : wr.cell? ⟨gr, off + k * 4 + 2, none⟩ = some cv := hcj.2.2.1
        have c3 : wr.cell? ⟨gr, off + k * 4 + 3, none⟩ = some (.int .u32 (x.act : Nat)) := hcj.2.2.2
        have hpm : (x, cv) ∈ l := by rw [hp]; exact List.getElem_mem hlt'
        obtain ⟨pa, pk, pc, hpv⟩ := HSh.out _ hpm
        have hkey : key x < 4294967296 := HKB.out _ hpm
        simp only at hpv
        subst hpv
        have HPT := Lib.hid (show l.take (k + 1) = l.take k ++ [(x, .slice pa pk pc)] by rw [List.take_succ_eq_append_getElem hlt', ← hp])
        have l0 : (0 : Int) ≤ (k : Int) := by omega
        have l1 : (k : Int) < (n : Int) := by omega
        have l2 : (k : Int).toNat = k := by omega
        clear hrow hcs e3 e2 hp hpm hcj
        go_upto_region 5 with fail
        obtain ⟨W1, hW1, X0, hb1⟩ : ∃ V, V = wr.alloc (rlB x (.slice pa pk pc)) ∧ V.heap[wr.heap.size]? = some (rlB x (.slice pa pk pc)) ∧ Below wr.heap.size wr V := ⟨_, rfl, heap_alloc_new _ _, ba _ (Below.refl _ _)⟩
        change Code.wp _ _ _ _ (wr.alloc (rlB x (.slice pa pk pc)))
        rw [← hW1]
        obtain ⟨bx, hbx⟩ : ∃ g, g = wr.heap.size := ⟨_, rfl⟩
        have HX := Lib.hid X0
        rw [← hbx] at HX ⊢
        have HB1 := Lib.hid hb1
        have d0 : W1.cell? ⟨bx, 0, none⟩ = some (.int .u32 (x.arch : Nat)) := cell_in HX.out 0
        have d1 : W1.cell? ⟨bx, 1, none⟩ = some (.int .u32 (x.nr : Nat)) := cell_in HX.out 1
        have d2 : W1.cell? ⟨bx, 2, none⟩ = some (.slice pa pk pc) := cell_in HX.out 2
        have d3 : W1.cell? ⟨bx, 3, none⟩ = some (.int .u32 (x.act : Nat)) := cell_in HX.out 3
        clear c0 c1 c2 c3 hb1 X0 hW1 hbx
        go_wp2_with fail
        refine (HK.out x (.slice pa pk pc) W1).mono ?_
        rintro e w2 ⟨rfl, hb2⟩
        have HB2 := Lib.hid (HB1.out.trans (hb2.mono HB1.out.size))
        have HX2 := Lib.hid (hb2.block bx (lt_of_block HX.out) |>.trans HX.out)
        clear d0 d1 d2 d3 hb2 HX
        have d0 : w2.cell? ⟨bx, 0, none⟩ = some (.int .u32 (x.arch : Nat)) := cell_in HX2.out 0
        have d1 : w2.cell? ⟨bx, 1, none⟩ = some (.int .u32 (x.nr : Nat)) := cell_in HX2.out 1
        have d2 : w2.cell? ⟨bx, 2, none⟩ = some (.slice pa pk pc) := cell_in HX2.out 2
        have d3 : w2.cell? ⟨bx, 3, none⟩ = some (.int .u32 (x.act : Nat)) := cell_in HX2.out 3
        have hinv2 := HINV.out.below HB2.out
        obtain ⟨m, hm⟩ : ∃ m, m = (l.take k).length := ⟨_, rfl⟩
        have hmk : m = k := by rw [hm, List.length_take]; omega
        obtain ⟨q, hq⟩ : ∃ q, q = (filG key (l.take k) (key x)).length := ⟨_, rfl⟩
        have hqk : q ≤ m := by rw [hq, hm]; exact List.length_filter_le _ _
        obtain ⟨u, hu⟩ : ∃ u, u = (F (key x)).getD (.slice none 0 0) := ⟨_, rfl⟩
        have hown : w2.ownsRow w.heap.size 45 4 u q (qcells ((filG key (l.take k) (key x)).map rlQ)) := by
          rw [hq, hu]
          exact hinv2.at_ _
        have HU := Lib.hid hu
        have HOWN := Lib.hid hown
        have HINV2 := Lib.hid hinv2
        have hnr : some mb ≠ u.ownBlock := map_not_row hown hinv2.map
        have hlook := look_by hinv2.map hinv2.says (key x) hkey
        rw [← hu] at hlook
        have hB3 : w.heap.size ≤ w2.heap.size := Nat.le_trans HBK.out.size HB2.out.size
        have hb3 := ba (rlB x (.slice pa pk pc)) (Below.refl w2.heap.size w2)
        have HO3 := Lib.hid (own_below hown hb3)
        have HB3 := Lib.hid hb3
        have HNx := Lib.hid (new_at w2 (V4.cells (rlQ (x, .slice pa pk pc))).toArray 45)
        have hs3 : w.heap.size ≤ (w2.alloc (rlB x (.slice pa pk pc))).heap.size := Nat.le_trans hB3 hb3.size
        clear hown hinv2 hb3 hu
        go_wp2_with (at_builtin; refine wpList_append_apartG rfl _ _ 22 rfl w.heap.size 45 i0 (.agg #[.int .u32 0, .int .u32 0, .slice none 0 0, .int .u32 0]) 4 40 Tryz.underlying22 hi hz0 hz1 hz2 rfl (by decide) _ q (qcells ((filG key (l.take k) (key x)).map rlQ)) rfl HO3.out ⟨w2.heap.size, 0, none⟩ 1 rfl (V4.cells (rlQ (x, .slice pa pk pc))) rfl HNx.out (by simp [Value.oneCell']) (by unfold maxLen; omega) (by omega) hs3 ?_)
        intro v4 w4 hown4 hgrow4 hap4
        have hm3 := own_map_u32 HINV2.out.map (HB3.out.block _ HINV2.out.map.lt)
        have hm4 := own_map_u32 hm3 (hgrow4.block mb hm3.lt hnr)
        rw [← hm] at hm4
        have HM4 := Lib.hid hm4
        have HG4 := Lib.hid hgrow4
        have HAP4 := Lib.hid hap4
        have HOW4 := Lib.hid hown4
        have HB4 := Lib.hid (grown_below (HBK.out.trans ((HB2.out.mono HBK.out.size).trans (HB3.out.mono hB3))) HO3.out hgrow4 hs3)
        clear hm3 hm4 hgrow4 hap4 hown4
        go_wp2_with (first | (at_mapUpdate; refine wpList_mapUpdate_own _ rfl _ _ _ 105 rfl 23 22 keyU_keyed Tryz.underlying105 fnR mb m D rfl HM4.out (by unfold maxLen; omega) _ _ (keyU (key x)) rfl rfl (keyOfU hkey) (.held v4) [] rfl ?_; intro w5 hm5 hg5))
        have hst := HINV2.out.step (p := (x, .slice pa pk pc)) (w4 := w4) (w5 := w5) (v' := v4) HB3.out u HU.out HOW4.out HG4.out (fun k0 hk0 => by rw [size_alloc]; exact HAP4.out k0 hk0) (by rw [← hm]; exact hm5) (by rw [← hm]; exact HM4.out) hg5
        rw [← HPT.out] at hst
        refine ⟨⟨k + 1, by omega, rfl, ⟨_, _, hst⟩, HB4.out.grown hg5 HB4.out.size fun k hk => by cases hk; exact hmg⟩, ?_⟩
        simp only [Lib.intOf]; omega
      · obtain rfl : k = n := by omega
        have hall : l.take k = l := by rw [HN.out]; exact List.take_length
        rw [hall] at HINV
        have hsd : Maps.IsMap D ∧ ∀ a, Maps.has D (keyU a) = (F a).isSome ∧ ∀ z, D.atKey (keyU a) (.held z) = .held ((F a).getD z) := HINV.out.says
        have hhas : ∀ a, Maps.has D (keyU a) = true ↔ a ∈ (l.map (·.1)).map key := fun a => by rw [(hsd.2 a).1]; exact HINV.out.known a
        have h64b : ((l.map (·.1)).map key).length ≤ 64 := by rw [List.length_map, List.length_map, ← HN.out]; exact h64
        obtain ⟨ks, hks⟩ : ∃ ks, ks = keysOf ((l.map (·.1)).map key) := ⟨_, rfl⟩
        have hio := zinOrder_any mb l.length D _ wr HINV.out.map hhas h64b
        rw [← hks] at hio
        have hkm : ∀ a ∈ ks, a < 4294967296 := fun a ha => by
          rw [hks] at ha
          obtain ⟨x, hx, rfl⟩ := List.mem_map.1 (mem_keysOf.1 ha)
          obtain ⟨p, hp, rfl⟩ := List.mem_map.1 hx
          exact HKB.out p hp
        have hkl : ks.length ≤ 64 := by rw [hks]; exact Nat.le_trans (keysOf_len _) h64b
        have HIO := Lib.hid hio
        have HKS := Lib.hid hks
        have HKM := Lib.hid hkm
        have hz : ∃ z, z = groupL key l F := ⟨_, rfl⟩
        clear hsd hhas h64b hio hks hkm hz
        go_wp2_with fail
        refine HIO.out.mono ?_
        rintro e w2 ⟨kv, rfl, hkv, hb2⟩
        obtain ⟨ka, kc, rfl⟩ := own_slice hkv
        have HKV := Lib.hid hkv
        have HB2 := Lib.hid (HBK.out.trans (hb2.mono HBK.out.size))
        have HINV2 := Lib.hid (HINV.out.below hb2)
        clear hkv
        go_wp2_with fail
        obtain ⟨kn, hkn⟩ : ∃ q, q = ks.length := ⟨_, rfl⟩
        rw [← hkn] at hkl ⊢
        have HKN := Lib.hid hkn
        clear hkn
        have hsw : w.heap.size ≤ w2.heap.size := HB2.out.size
        go_loopw [9, 34] (fun u i wr => ∃ j : Nat, j ≤ kn ∧ i = .int .i64 j ∧ wr.ownsRow w2.heap.size 76 2 u j (gcells (groupL key l F (ks.take j))) ∧ Below w2.heap.size w2 wr) (fun _ i _ => kn - (Lib.intOf i).toNat)
        case atStart => exact ⟨0, Nat.zero_le _, rfl, ⟨rfl, .inl ⟨rfl, rfl⟩⟩, Below.refl _ _⟩
        case round =>
          obtain ⟨j, hj, rfl, hgo, hbr⟩ := hrel
          have HGO := Lib.hid hgo
          have HBR := Lib.hid hbr
          clear hgo hbr
          by_cases hlt : j < kn
          · have hlt' : j < ks.length := by rw [← HKN.out]; exact hlt
            obtain ⟨a, ha⟩ : ∃ a, a = ks[j] := ⟨_, rfl⟩
            have ham : a < 4294967296 := HKM.out a (by rw [ha]; exact List.getElem_mem hlt')
            have hkr := own_below HKV.out HBR.out
            have hkb := row_none hkr
            obtain ⟨g, rfl⟩ := (hkb (by omega))
            have hc : wr.cell? ⟨g, j, none⟩ = some (.int .u32 (a : Nat)) := by
              have h := hkr.cells (g := g) rfl j (.int .u32 (a : Nat)) (by rw [List.getElem?_map, List.getElem?_eq_getElem hlt', ← ha]; rfl)
              rwa [add_plain, Nat.zero_add] at h
            have HPT := Lib.hid (show ks.take (j + 1) = ks.take j ++ [a] by rw [List.take_succ_eq_append_getElem hlt', ← ha])
            have l0 : (0 : Int) ≤ (j : Int) := by omega
            have l1 : (j : Int) < (kn : Int) := by omega
            have l2 : (j : Int).toNat = j := by omega
            have hir := HINV2.out.below HBR.out
            have hlook := look_by hir.map hir.says a ham
            obtain ⟨va, vk, vc, hv⟩ : ∃ va vk vc, (F a).getD (.slice none 0 0) = .slice va vk vc := ⟨_, _, _, (own_slice (hir.at_ a)).choose_spec.choose_spec⟩
            rw [hv] at hlook
            have HV := Lib.hid hv
            have hb3 := ba (.cells #[.int .u32 (a : Nat), .slice va vk vc] 76) (Below.refl wr.heap.size wr)
            have HO3 := Lib.hid (own_below HGO.out hb3)
            have HB3 := Lib.hid (HBR.out.trans (hb3.mono HBR.out.size))
            have HNx := Lib.hid (new_at wr #[.int .u32 (a : Nat), .slice va vk vc] 76)
            have hs3 : w2.heap.size ≤ (wr.alloc (.cells #[.int .u32 (a : Nat), .slice va vk vc] 76)).heap.size := HB3.out.size
            clear hkr hkb hir hb3 ha hv
            go_wp2_with (at_builtin; refine wpList_append_apartG rfl _ _ 77 rfl w2.heap.size 76 j0 (.agg #[.int .u32 0, .slice none 0 0]) 2 32 Tryz.underlying77 hyi hy0 hy1 hy2 rfl (by decide) _ j (gcells (groupL key l F (ks.take j))) rfl HO3.out ⟨wr.heap.size, 0, none⟩ 1 rfl [.int .u32 (a : Nat), .slice va vk vc] rfl HNx.out (by simp [Value.oneCell']) (by unfold maxLen; omega) (by omega) hs3 ?_)
            intro v4 w4 hown4 hgrow4 hap4
            have hown5 : w4.ownsRow w2.heap.size 76 2 v4 (j + 1) (gcells (groupL key l F (ks.take (j + 1)))) := by
              have e : gcells (groupL key l F (ks.take (j + 1))) = gcells (groupL key l F (ks.take j)) ++ [.int .u32 (a : Nat), .slice va vk vc] := by
                rw [HPT.out]
                unfold groupL
                rw [List.map_append, gcells_app]
                simp [gcells, HV.out]
              rw [e]
              exact hown4
            have HOW4 := Lib.hid hown5
            have HB4 := Lib.hid (grown_below HB3.out HO3.out hgrow4 hs3)
            clear hown4 hgrow4 hap4 hown5
            go_wp2_with fail
            exact ⟨⟨j + 1, by omega, rfl, HOW4.out, HB4.out⟩, by simp only [Lib.intOf]; omega⟩
          · obtain rfl : j = kn := by omega
            have hall2 : ks.take j = ks := by rw [HKN.out]; exact List.take_length
            rw [hall2] at HGO
            obtain ⟨gl, hgl⟩ : ∃ gl, gl = groupL key l F ks := ⟨_, rfl⟩
            have hfin : gl.map (·.1) = groupsOf key (l.map (·.1)) ∧ (∀ q ∈ gl, ∃ ao k cap, q.2 = .slice ao k cap) ∧ LStay B b wr (fun V => SlG V u9 gl.length (fun j => (gl[j]?.map fun p => [.int .u32 (p.1.1 : Nat), p.2]).getD [])) ∧ ∀ q ∈ gl, SrcR B b wr q := by
              have hir := HINV2.out.below HBR.out
              have hg := HGO.out
              have hjl : j = gl.length := by rw [hgl, HKN.out]; exact (List.length_map _).symm
              rw [← hgl, hjl] at hg
              refine ⟨?_, fun q hq => ?_, fun V hr => own_slG (own_lrk hg hr (by omega)), fun q hq => ?_⟩
              · rw [hgl]
                unfold groupL groupsOf
                rw [List.map_map, ← HKS.out]
                exact List.map_congr_left fun a _ => by simp only [Function.comp]; rw [filG_map]
              · rw [hgl] at hq
                obtain ⟨a, _, rfl⟩ := List.mem_map.1 hq
                obtain ⟨o, c, e⟩ := own_slice (hir.at_ a)
                exact ⟨_, _, _, e⟩
              · rw [hgl] at hq
                obtain ⟨a, _, rfl⟩ := List.mem_map.1 hq
                have hr0 : LR B b w wr := LR.of_below (HB2.out.trans (HBR.out.mono hsw)) hB
                refine ⟨filG key l a, rfl, fun p hp => HSh.out p ((List.mem_filter.1 hp).1), fun V hr => own_slR (own_lrk (hir.at_ a) hr hb), fun p hp => (HCd.out p ((List.mem_filter.1 hp).1)).next hr0⟩
            have HFIN := Lib.hid hfin
            have HBZ := Lib.hid (HB2.out.trans (HBR.out.mono hsw))
            clear hfin hgl
            go_wp2_with fail
            go_ret
            exact ⟨⟨_, gl, rfl, HFIN.out⟩, HBZ.out⟩
end Go.Proofs.YtbekkdhlfkongaaGreatDoor
/-
  What the places of calls put.
-/
namespace Go.Proofs.YtbekkdhlfkongaaGreatDoor
open Go.ChangeShapes Go.WideShapes Go.ChangeAt Go.RowKit Go.Shelf
set_option maxRecDepth 20000

theorem groups_cells {w : World} {pg n : Nat} {gv : Value} (h : w.heap[pg]? = some (grB n gv)) : w.cell? ⟨pg, 0, none⟩ = some (.int .u32 (n : Nat)) ∧ w.cell? ⟨pg, 1, none⟩ = some gv := ⟨cell_in h 0, cell_in h 1⟩
/-- A place's answer, by what it is. -/
theorem place_calls {B b m : Nat} {fn1 lo : Nat} {rv : Value} {df : Nat} {w V : World} {v : Value} {l : List (Gr × Value)} (h : GPl fn1 lo w b v l) {r : LS × Int} (hc : PCalls v V (fun e w' => LEnd B V b rv df m r w' e)) :
    (v = otherV b ∧ Calls Tryz.prog 31 #[ptrV b] V (fun e w' => LEnd B V b rv df m r w' e)) ∨
      (∃ a1 a2 a3, v = .func (.func fn1) #[] #[ptrV a1, ptrV a2, ptrV a3] ∧ Calls Tryz.prog fn1 #[ptrV a1, ptrV a2, ptrV a3] V (fun e w' => LEnd B V b rv df m r w' e)) := by
  cases l with
  | nil =>
    have h : v = otherV b := h
    have hh := hc 31 #[ptrV b] #[] h
    rw [show (#[ptrV b] ++ #[] : Array Value) = #[ptrV b] from rfl] at hh
    exact .inl ⟨h, hh⟩
  | cons q l =>
    obtain ⟨a1, a2, a3, _, e, _⟩ := h
    have hh := hc fn1 #[] #[ptrV a1, ptrV a2, ptrV a3] e
    rw [show (#[] ++ #[ptrV a1, ptrV a2, ptrV a3] : Array Value) = #[ptrV a1, ptrV a2, ptrV a3] from rfl] at hh
    exact .inr ⟨a1, a2, a3, e, hh⟩
theorem place_callsR {B b m : Nat} {lo : Nat} {rv : Value} {df : Nat} {w : World} {v : Value} {l : List (Rl × Value)} (h : RPl lo w b v l) {r : LS × Int} {G : World → Prop} (hc : ∀ V, G V → PCalls v V (fun e w' => LEnd B V b rv df m r w' e)) :
    (v = otherV b ∧ ∀ V, G V → Calls Tryz.prog 31 #[ptrV b] V (fun e w' => LEnd B V b rv df m r w' e)) ∨
      (∃ a1 a2 a3, v = .func (.func 135) #[] #[ptrV a1, ptrV a2, ptrV a3] ∧ ∀ V, G V → Calls Tryz.prog 135 #[ptrV a1, ptrV a2, ptrV a3] V (fun e w' => LEnd B V b rv df m r w' e)) := by
  cases l with
  | nil =>
    have h : v = otherV b := h
    refine .inl ⟨h, fun V hV => ?_⟩
    have hh := hc V hV 31 #[ptrV b] #[] h
    rwa [show (#[ptrV b] ++ #[] : Array Value) = #[ptrV b] from rfl] at hh
  | cons q l =>
    obtain ⟨a1, a2, a3, _, e, _⟩ := h
    refine .inr ⟨a2, a3, a1, e, fun V hV => ?_⟩
    have hh := hc V hV 135 #[] #[ptrV a2, ptrV a3, ptrV a1] e
    rwa [show (#[] ++ #[ptrV a2, ptrV a3, ptrV a1] : Array Value) = #[ptrV a2, ptrV a3, ptrV a1] from rfl] at hh
set_option maxHeartbeats 16000000 in
set_option maxRecDepth 100000 in
theorem lcalls_any {B b m lo : Nat} {rv : Value} {df : Nat} (hdf : df < 4294967296) (hlo : b < lo) : ∀ (gl : List (Gr × Value)) (v : Value) (S : LS) (w : World), GPl 96 lo w b v gl → LwAt w b rv df m S → LwIn B b m w → ReadyL S →
    (∀ p ∈ gl, p.1.1 < 4294967296 ∧ RulesOk p.1.2) → (∀ p ∈ gl, SrcR B b w p) → S.s.c.length + costC (gl.map (·.1)) ≤ 3850 → PCalls v w (fun e w' => LEnd B w b rv df m (emitC df (gl.map (·.1)) S) w' e)
  | [], v, S, w, hp, h, hi, hr, _, _, hl => by
    have hp : v = otherV b := hp
    subst hp
    exact other_calls h hi hdf hr (by unfold costC at hl; simp at hl; omega)
  | p :: gl, v, S, w, hp, h, hi, hr, hok, hsrc, hl => by
    obtain ⟨pn, pg, pl, nv, rfl, bN, bG, bL, n1, n2, n3, hrest⟩ := hp
    intro f bd lb he
    cases he
    obtain ⟨⟨num, rs⟩, gv⟩ := p
    rw [List.map_cons] at hl ⊢
    unfold costC at hl
    simp only at hl bG
    obtain ⟨hnum, hrok⟩ := hok ((num, rs), gv) List.mem_cons_self
    obtain ⟨rl, hrs, hsh, hSl, hcond⟩ := hsrc ((num, rs), gv) List.mem_cons_self
    simp only at hnum hrok hrs hSl
    obtain ⟨go, gcap, hgv, _⟩ := hSl.now
    subst hgv
    subst hrs
    have hc1 := costR_pos (rl.map (·.1))
    have hrl : rl.length ≤ 100000 := by
      have : ∀ l : List (Rl × Value), l.length ≤ costR (l.map (·.1)) := by
        intro l
        induction l with
        | nil => exact Nat.zero_le _
        | cons q l ih => rw [List.map_cons, List.length_cons]; unfold costR; omega
      have := this rl
      omega
    have cL := bL.cell
    have cN := bN.cell
    have hpl : pl < w.heap.size := bL.lt
    have hblt : b < w.heap.size := h.1.lt
    obtain ⟨i1, _⟩ := emitC_goes hdf (gl.map (·.1)) S hr (fun q hq => by obtain ⟨p, hp, rfl⟩ := List.mem_map.1 hq; exact hok p (List.mem_cons_of_mem _ hp)) (by omega)
    have il := i1.len
    obtain ⟨e1, _⟩ := emitR_goes hdf (rl.map (·.1)) _ (.inl i1.good) hrok (by omega)
    have el := e1.len
    have IH := lcalls_any hdf hlo gl nv S w hrest h hi hr (fun q hq => hok q (List.mem_cons_of_mem _ hq)) (fun q hq => hsrc q (List.mem_cons_of_mem _ hq)) (by omega)
    obtain ⟨r, hrr⟩ : ∃ r, r = emitC df ((num, rl.map (·.1)) :: gl.map (·.1)) S := ⟨_, rfl⟩
    obtain ⟨R1, hR1⟩ : ∃ q, q = emitC df (gl.map (·.1)) S := ⟨_, rfl⟩
    obtain ⟨R2, hR2⟩ : ∃ q, q = emitR df (rl.map (·.1)) R1.1 := ⟨_, rfl⟩
    have HE : Hid (r = putLS R2.1 (branchS R2.1.s 21 (num : Nat) R2.2 R1.2)) := Lib.hid (by rw [hrr, hR2, hR1]; rfl)
    have G1 := Lib.hid (show GoodL R1.1 by rw [hR1]; exact i1.good)
    have l1 : R1.1.s.c.length ≤ S.s.c.length + costC (gl.map (·.1)) := by rw [hR1]; exact il.2
    have l2 : R2.1.s.c.length ≤ R1.1.s.c.length + costR (rl.map (·.1)) := by rw [hR2, hR1]; exact el.2
    have l3 : R2.1.s.c.length ≤ 3850 := by omega
    rw [← hR1] at IH
    have HSH := Lib.hid (place_calls hrest IH)
    have HRC : Hid (∀ (lo' : Nat) (V : World) (v' : Value), b < lo' → RPl lo' V b v' rl → LwAt V b rv df m R1.1 → LwIn B b m V → LR B b w V → PCalls v' V (fun e w' => LEnd B V b rv df m R2 w' e)) := Lib.hid (fun lo' V v' hb' hp' h1 h2 h3 => by
      rw [hR2]
      exact lrules_any hdf hb' rl v' R1.1 V hp' h1 h2 (.inl G1.out) hrok (fun q hq => (hcond q hq).next h3) (by omega))
    have HI := Lib.hid hi
    have HSl := Lib.hid hSl
    have HShp := Lib.hid hsh
    have HGb := Lib.hid bG
    have HLb := Lib.hid bL
    simp only
    rw [← hrr]
    obtain ⟨x0, x1⟩ := groups_cells bG
    clear IH hrr hR1 hR2 i1 il e1 el hok hsrc hSl hcond hsh h hi hr hrest bG bL bN hl hrok
    rcases HSH.out with ⟨rfl, HN⟩ | ⟨a1, a2, a3, rfl, HN⟩
    all_goals
      have HN := Lib.hid HN
      clear HSH
      go_enter Tryz.func96, Tryz.ntmps96
      go_wp2_with fail
      refine HN.out.mono ?_
      rintro e w1 ⟨rfl, hw1, hlr1⟩
      have HW1 := Lib.hid hw1
      have HLR1 := Lib.hid hlr1
      have hs1 := hlr1.size
      clear HN cN x0 x1 cL hw1 hlr1
      obtain ⟨x0, x1⟩ := groups_cells (HLR1.out.block HGb.out (by omega))
      have cL := (HLR1.out.boxed HLb.out (by omega)).cell
      go_wp2_with fail
      refine (lUchain_any (B := B) (b := b) (.slice go rl.length gcap) rl HShp.out hrl w1 (by have := HI.out.hsz; omega) (by omega) (HSl.out.next HLR1.out)).mono ?_
      rintro e w2 ⟨⟨v2, rfl, hv2⟩, hb2⟩
      have HB2 := Lib.hid hb2
      have HLR2 := Lib.hid (HLR1.out.trans (LR.of_below (B := B) (b := b) hb2 (by have := HI.out.hsz; omega)))
      have HW2 := Lib.hid (HW1.out.below hb2)
      have hs2 := hb2.size
      have HPR := Lib.hid (place_callsR hv2 (G := fun V => Below w2.heap.size w2 V) (r := R2) (B := B) (m := m) (rv := rv) (df := df) (fun V hV => HRC.out _ V v2 (by omega) (hv2.lr (LR.of_below (B := B) (b := b) hV (by have := HI.out.hsz; omega)) (by omega)) (HW2.out.below hV) (HI.out.next (HLR2.out.trans (LR.of_below hV (by have := HI.out.hsz; omega)))) (HLR2.out.trans (LR.of_below hV (by have := HI.out.hsz; omega)))))
      clear hv2 hb2 x0 x1 cL
      have bL2 := HLR2.out.boxed HLb.out (by omega)
      have bG2 := HLR2.out.block HGb.out (by omega)
      have cL := bL2.cell
      obtain ⟨x0, x1⟩ := groups_cells bG2
      have HBR : Hid (∀ V, LwAt V b rv df m R2.1 → LwIn B b m V → Calls Tryz.prog 58 #[ptrV b, .int .i64 21, .int .u32 (num : Nat), .int .i64 R2.2, .int .i64 R1.2] V fun e w' => e = .returned (.int .i64 r.2) ∧ LwAt w' b rv df m r.1 ∧ LR B b V w') := Lib.hid (fun V h1 h2 => by
        refine (dbranch_any 21 (num : Nat) R2.2 R1.2 V h1.1 (by omega) h2.ops).mono ?_
        rintro e w' ⟨rfl, hd, hc⟩
        rw [HE.out]
        exact ⟨rfl, h1.draft hd hc h2.hne, LR.of_chg hc h2.hsz h2.hb⟩)
      rcases HPR.out with ⟨rfl, HQ⟩ | ⟨c1, c2, c3, rfl, HQ⟩
      all_goals
        have HQ := Lib.hid HQ
        clear HPR
        go_upto_region 3 with fail
        go_region_held3 (fun V => V.cell? ⟨pl, 0, none⟩ = some (ptrV b) ∧ V.cell? ⟨pg, 0, none⟩ = some (.int .u32 (num : Nat))) (first | exact ⟨cL, x0⟩ | exact ⟨d0, d1⟩ | exact ⟨f0, f1⟩ | go_keep)
          (first
            | (go_at_call 31; refine (HQ.out _ ?_).mono ?_; exact (Below.refl w2.heap.size w2).drew; rintro e w9 ⟨rfl, hw9, hlr9⟩; have d0 := (hlr9.boxed (show Boxed w2.drew pl _ _ from bL2) (by omega)).cell; have d1 := (groups_cells (hlr9.block (show w2.drew.heap[pg]? = _ from bG2) (by omega))).1)
            | (go_at_call 135; refine (HQ.out _ ?_).mono ?_; exact (Below.refl w2.heap.size w2).drew; rintro e w9 ⟨rfl, hw9, hlr9⟩; have d0 := (hlr9.boxed (show Boxed w2.drew pl _ _ from bL2) (by omega)).cell; have d1 := (groups_cells (hlr9.block (show w2.drew.heap[pg]? = _ from bG2) (by omega))).1)
            | (go_at_call 58; refine (HBR.out _ hw9 ?_).mono ?_; exact HI.out.next (HLR2.out.trans ((LR.of_below (B := B) (b := b) (Below.refl w2.heap.size w2).drew (by have := HI.out.hsz; omega)).trans hlr9)); rintro e w10 ⟨rfl, hw10, hlr10⟩; have f0 := (hlr10.boxed (hlr9.boxed (show Boxed w2.drew pl _ _ from bL2) (by omega)) (by omega)).cell; have f1 := (groups_cells (hlr10.block (hlr9.block (show w2.drew.heap[pg]? = _ from bG2) (by omega)) (by omega))).1))
        have HEnd : Hid (LEnd B w b rv df m r w10 (.returned (.int .i64 r.2))) := Lib.hid ⟨rfl, hw10, HLR2.out.trans ((LR.of_below (B := B) (b := b) (Below.refl w2.heap.size w2).drew (by have := HI.out.hsz; omega)).trans (hlr9.trans hlr10))⟩
        clear hw10 hlr10 hw9 hlr9 d0 d1 f0 f1 x0 x1 cL bL2 bG2
        go_wp2_with fail
        go_ret
        exact HEnd.out
end Go.Proofs.YtbekkdhlfkongaaGreatDoor
