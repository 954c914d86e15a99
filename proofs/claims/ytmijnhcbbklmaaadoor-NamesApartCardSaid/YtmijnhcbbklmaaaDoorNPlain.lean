/-
  Names, plainly: a table's text of a number, and which number has a text; machines, calls and actions.
-/
import Derived.Test.YtmijnhcbbklmaaaDoorTxt
namespace Go.Proofs.YtmijnhcbbklmaaaDoor
open Go.RowKit

/-- Names and their numbers. -/
abbrev Tbl := List (ByteArray × Nat)
def textN : Tbl → Nat → ByteArray
  | [], n => Wd.txt n
  | p :: T, n => if p.2 = n then p.1 else textN T n
/-- A table is right: names apart, numbers apart, no name begins as digits do, numbers are small. -/
def tblGood : Tbl → Bool
  | [] => true
  | p :: T => T.all (fun q => decide (p.1 ≠ q.1) && decide (p.2 ≠ q.2)) && (p.1.data.toList.head? != some 48) && decide (p.2 < 4294967296) && tblGood T
theorem txt_head (n : Nat) : (Wd.txt n).data.toList.head? = some 48 := rfl
theorem tbl_cons {p : ByteArray × Nat} {T : Tbl} (h : tblGood (p :: T) = true) : (∀ q ∈ T, p.1 ≠ q.1 ∧ p.2 ≠ q.2) ∧ p.1.data.toList.head? ≠ some 48 ∧ p.2 < 4294967296 ∧ tblGood T = true := by
  unfold tblGood at h
  simp only [Bool.and_eq_true, List.all_eq_true, bne_iff_ne, ne_eq, decide_eq_true_eq] at h
  exact ⟨h.1.1.1, h.1.1.2, h.1.2, h.2⟩
/-- A number's text is a name of the table, or its digits. -/
theorem textN_is (T : Tbl) (n : Nat) : (∃ p ∈ T, p.2 = n ∧ textN T n = p.1) ∨ ((∀ p ∈ T, p.2 ≠ n) ∧ textN T n = Wd.txt n) := by
  induction T with
  | nil => exact .inr ⟨by simp, rfl⟩
  | cons p T ih =>
    unfold textN
    by_cases h : p.2 = n
    · exact .inl ⟨p, by simp, h, by rw [if_pos h]⟩
    · rw [if_neg h]
      rcases ih with ⟨q, hq, h1, h2⟩ | ⟨h1, h2⟩
      · exact .inl ⟨q, by simp [hq], h1, h2⟩
      · refine .inr ⟨fun q hq => ?_, h2⟩
        rcases List.mem_cons.1 hq with rfl | hq
        · exact h
        · exact h1 q hq
/-- What is found by its name has that name as its text. -/
theorem textN_of {T : Tbl} (hT : tblGood T = true) {p : ByteArray × Nat} (hp : p ∈ T) : textN T p.2 = p.1 := by
  induction T with
  | nil => simp at hp
  | cons q T ih =>
    obtain ⟨h1, _, _, h4⟩ := tbl_cons hT
    unfold textN
    rcases List.mem_cons.1 hp with rfl | hp
    · rw [if_pos rfl]
    · rw [if_neg (h1 p hp).2]
      exact ih h4 hp
theorem tbl_names {T : Tbl} (hT : tblGood T = true) {p q : ByteArray × Nat} (hp : p ∈ T) (hq : q ∈ T) (h : p.1 = q.1) : p = q := by
  induction T with
  | nil => simp at hp
  | cons r T ih =>
    obtain ⟨h1, _, _, h4⟩ := tbl_cons hT
    rcases List.mem_cons.1 hp with e | hp' <;> rcases List.mem_cons.1 hq with e' | hq'
    · rw [e, e']
    · rw [e] at h
      exact absurd h (h1 q hq').1
    · rw [e'] at h
      exact absurd h.symm (h1 p hp').1
    · exact ih h4 hp' hq'
theorem tbl_head {T : Tbl} (hT : tblGood T = true) {p : ByteArray × Nat} (hp : p ∈ T) : p.1.data.toList.head? ≠ some 48 := by
  induction T with
  | nil => simp at hp
  | cons r T ih =>
    obtain ⟨_, h2, _, h4⟩ := tbl_cons hT
    rcases List.mem_cons.1 hp with rfl | hp
    · exact h2
    · exact ih h4 hp
theorem tbl_small {T : Tbl} (hT : tblGood T = true) {p : ByteArray × Nat} (hp : p ∈ T) : p.2 < 4294967296 := by
  induction T with
  | nil => simp at hp
  | cons r T ih =>
    obtain ⟨_, _, h3, h4⟩ := tbl_cons hT
    rcases List.mem_cons.1 hp with rfl | hp
    · exact h3
    · exact ih h4 hp
theorem textN_inj {T : Tbl} (hT : tblGood T = true) {m n : Nat} (h : textN T m = textN T n) : m = n := by
  rcases textN_is T m with ⟨p, hp, rfl, e1⟩ | ⟨_, e1⟩ <;> rcases textN_is T n with ⟨q, hq, rfl, e2⟩ | ⟨_, e2⟩
  · rw [e1, e2] at h
    rw [tbl_names hT hp hq h]
  · rw [e1, e2] at h
    exact absurd (by rw [h]; exact txt_head n) (tbl_head hT hp)
  · rw [e1, e2] at h
    exact absurd (by rw [← h]; exact txt_head m) (tbl_head hT hq)
  · rw [e1, e2] at h
    exact Wd.txt_inj h
/-- What is read of a text: found, the number whose text it is; else nothing. -/
def readN (T : Tbl) (s : ByteArray) (o : Option Nat) : Prop :=
  match o with
  | some n => n < 4294967296 ∧ s = textN T n
  | none => ∀ n : Nat, n < 4294967296 → s ≠ textN T n
theorem readN_one {T : Tbl} (hT : tblGood T = true) {s : ByteArray} {o o' : Option Nat} (h : readN T s o) (h' : readN T s o') : o = o' := by
  cases o <;> cases o'
  · rfl
  · exact absurd h'.2 (h _ h'.1)
  · exact absurd h.2 (h' _ h.1)
  · rw [textN_inj hT (h.2.symm.trans h'.2)]
/-! ### Machines and calls -/
def bx64 : ByteArray := ⟨#[120, 54, 52]⟩
def bx86 : ByteArray := ⟨#[120, 56, 54]⟩
def ba64 : ByteArray := ⟨#[97, 54, 52]⟩
def barm : ByteArray := ⟨#[97, 114, 109]⟩
def bread : ByteArray := ⟨#[114, 101, 97, 100]⟩
def bwrite : ByteArray := ⟨#[119, 114, 105, 116, 101]⟩
def bopen : ByteArray := ⟨#[111, 112, 101, 110]⟩
def bclose : ByteArray := ⟨#[99, 108, 111, 115, 101]⟩
def bexit : ByteArray := ⟨#[101, 120, 105, 116]⟩
def bfork : ByteArray := ⟨#[102, 111, 114, 107]⟩
def bkill : ByteArray := ⟨#[107, 105, 108, 108]⟩
def bmmap : ByteArray := ⟨#[109, 109, 97, 112]⟩
def machT : Tbl := [(bx64, 3221225534), (bx86, 1073741827), (ba64, 3221225655), (barm, 1073741864)]
def callX64 : Tbl := [(bread, 0), (bwrite, 1), (bopen, 2), (bclose, 3), (bexit, 60), (bfork, 57), (bkill, 62), (bmmap, 9)]
def callX86 : Tbl := [(bread, 3), (bwrite, 4), (bopen, 5), (bclose, 6), (bexit, 1), (bfork, 2), (bkill, 37), (bmmap, 90)]
def callA64 : Tbl := [(bread, 63), (bwrite, 64), (bclose, 57), (bexit, 93), (bkill, 129), (bmmap, 222)]
def callArm : Tbl := [(bread, 3), (bwrite, 4), (bopen, 5), (bclose, 6), (bexit, 1), (bfork, 2), (bkill, 37)]
def callT (arch : Nat) : Tbl := if arch = 3221225534 then callX64 else if arch = 1073741827 then callX86 else if arch = 3221225655 then callA64 else if arch = 1073741864 then callArm else []
theorem machT_good : tblGood machT = true := by decide
theorem callT_good (arch : Nat) : tblGood (callT arch) = true := by
  unfold callT
  split
  · decide
  split
  · decide
  split
  · decide
  split
  · decide
  rfl
/-! ### Actions -/
def bkillA : ByteArray := ⟨#[107, 105, 108, 108]⟩
def btrap : ByteArray := ⟨#[116, 114, 97, 112]⟩
def blog : ByteArray := ⟨#[108, 111, 103]⟩
def ballow : ByteArray := ⟨#[97, 108, 108, 111, 119]⟩
def berror : ByteArray := ⟨#[101, 114, 114, 111, 114, 58]⟩
/-- An action's text; none: it is no action. -/
def actT (v : Nat) : Option ByteArray :=
  if 327680 ≤ v ∧ v ≤ 331775 then some (berror ++ Wd.txt (v - 327680)) else if v = 0 then some bkillA else if v = 196608 then some btrap else if v = 2147221504 then some blog else if v = 2147418112 then some ballow else none
theorem err_list (n : Nat) : (berror ++ Wd.txt n).data.toList = [101, 114, 114, 111, 114, 58] ++ (Wd.txt n).data.toList := by
  rw [ByteArray.data_append, Array.toList_append]
  rfl
theorem err_inj {m n : Nat} (h : berror ++ Wd.txt m = berror ++ Wd.txt n) : m = n := by
  have e := congrArg (fun b : ByteArray => b.data.toList) h
  simp only [err_list] at e
  refine Wd.txt_inj (ByteArray.ext (Array.ext' (List.append_cancel_left e)))
theorem err_long (n : Nat) : 6 < (berror ++ Wd.txt n).data.toList.length := by
  rw [err_list, List.length_append]
  show 6 < 6 + (48 :: 120 :: Wd.hex n).length
  simp
theorem actT_some {v : Nat} {s : ByteArray} (h : actT v = some s) : (∃ n, n < 4096 ∧ v = 327680 + n ∧ s = berror ++ Wd.txt n) ∨ (v = 0 ∧ s = bkillA) ∨ (v = 196608 ∧ s = btrap) ∨ (v = 2147221504 ∧ s = blog) ∨ (v = 2147418112 ∧ s = ballow) := by
  unfold actT at h
  split at h
  · rename_i hv
    exact .inl ⟨v - 327680, by omega, by omega, by simpa using h.symm⟩
  split at h
  · rename_i hv; exact .inr (.inl ⟨hv, by simpa using h.symm⟩)
  split at h
  · rename_i hv; exact .inr (.inr (.inl ⟨hv, by simpa using h.symm⟩))
  split at h
  · rename_i hv; exact .inr (.inr (.inr (.inl ⟨hv, by simpa using h.symm⟩)))
  split at h
  · rename_i hv; exact .inr (.inr (.inr (.inr ⟨hv, by simpa using h.symm⟩)))
  cases h
theorem err_ne {n : Nat} {s : ByteArray} (hs : s.data.toList.length ≤ 6) (h : berror ++ Wd.txt n = s) : False := by
  have := err_long n
  rw [h] at this
  omega
theorem actT_inj {v v' : Nat} {s : ByteArray} (h : actT v = some s) (h' : actT v' = some s) : v = v' := by
  rcases actT_some h with ⟨n, hn, rfl, e⟩ | ⟨rfl, e⟩ | ⟨rfl, e⟩ | ⟨rfl, e⟩ | ⟨rfl, e⟩ <;> rcases actT_some h' with ⟨m, hm, rfl, e'⟩ | ⟨rfl, e'⟩ | ⟨rfl, e'⟩ | ⟨rfl, e'⟩ | ⟨rfl, e'⟩
  · rw [err_inj (e.symm.trans e')]
  all_goals first
    | rfl
    | exact (err_ne (by decide) (e.symm.trans e')).elim
    | exact (err_ne (by decide) (e'.symm.trans e)).elim
    | exact absurd (e.symm.trans e') (by decide)
/-- What is read of an action's text. -/
def readA (s : ByteArray) (o : Option Nat) : Prop :=
  match o with
  | some v => v < 4294967296 ∧ actT v = some s
  | none => ∀ v : Nat, v < 4294967296 → actT v ≠ some s
theorem readA_one {s : ByteArray} {o o' : Option Nat} (h : readA s o) (h' : readA s o') : o = o' := by
  cases o <;> cases o'
  · rfl
  · exact absurd h'.2 (h _ h'.1)
  · exact absurd h.2 (h' _ h.1)
  · rw [actT_inj h.2 h'.2]
end Go.Proofs.YtmijnhcbbklmaaaDoor
