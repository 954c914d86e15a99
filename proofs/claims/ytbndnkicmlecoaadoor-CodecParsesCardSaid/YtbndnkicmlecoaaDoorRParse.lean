/-
  The document's own reading of an instruction's text (package hurdleref02): Parse answers as package ins does.
-/
import Derived.Test.YtbndnkicmlecoaaDoorRCut
import Derived.Test.YtbndnkicmlecoaaDoorRPrint
import Derived.Test.YtbndnkicmlecoaaDoorIParse
namespace Go.Proofs.YtbndnkicmlecoaaDoor
open Go.ChangeShapes Go.WideShapes Go.ChangeAt Go.RowKit
set_option maxRecDepth 20000

/-- A number that a text is read as: the one whose text it is, if there is one. -/
def Reads (t : ByteArray) (n : Nat) : Prop := n < 18446744073709551616 ∧ ∀ m : Nat, m < 18446744073709551616 → t = Wd.txt m → n = m
theorem refParse_any (t : ByteArray) (w : World) (ht : t.size ≤ 4611686018427387904) :
    Calls Tryd.prog 52 #[.string t] w fun e w' => ∃ (n : Nat) (b : Bool), Hid (Reads t n) ∧ e = .returned (.tuple #[.int .u64 n, .bool b]) ∧ Below w.heap.size w w' := by
  by_cases h : ∃ m : Nat, m < 18446744073709551616 ∧ t = Wd.txt m
  · obtain ⟨m, hm, rfl⟩ := h
    refine (refParse_yes m hm w).mono ?_
    rintro e w' ⟨rfl, hb⟩
    exact ⟨m, true, Lib.hid ⟨hm, fun k _ e => Wd.txt_inj e⟩, rfl, hb⟩
  · refine (refParse_no t ht (fun n hn e => h ⟨n, hn, e⟩) w).mono ?_
    rintro e w' ⟨rfl, hb⟩
    exact ⟨0, false, Lib.hid ⟨by omega, fun k hk e => absurd ⟨k, hk, e⟩ h⟩, rfl, hb⟩

/-- No instruction of the row at this place has the text. -/
def NotAt (s : ByteArray) (i : Nat) : Prop := ∀ a b c : Nat, Ip.Fine (Ip.refRow i).fmt a b c → s ≠ itxt (Ip.refRow i) a b c
/-- What comes of reading a text. -/
def RParseEnd (s : ByteArray) (e : Ending) : Prop :=
  (∃ (r : Ip.Row) (a b c : Nat), r ∈ Ip.rows ∧ Ip.Fine r.fmt a b c ∧ s = itxt r a b c ∧ e = .returned (.tuple #[insV r.op a b c, .bool true])) ∨
  ((∀ (r : Ip.Row) (a b c : Nat), r ∈ Ip.rows → Ip.Fine r.fmt a b c → s ≠ itxt r a b c) ∧ e = .returned (.tuple #[insV 0 0 0 0, .bool false]))
theorem rparse_none {s : ByteArray} (h : ∀ i, i < 39 → NotAt s i) : RParseEnd s (.returned (.tuple #[insV 0 0 0 0, .bool false])) := by
  refine .inr ⟨fun r a b c hr hf e => ?_, rfl⟩
  obtain ⟨i, hi, rfl⟩ := row_ref hr
  exact h i hi a b c hf e

theorem rest_of {s : ByteArray} {n : Nat} {h : List UInt8} {rest : List (List UInt8)} {a b c : Nat} (hn : n < 39) (hp : Ip.cutAll 32 [] s.data.toList = h :: rest) (e : s = itxt (Ip.refRow n) a b c) : h = (Ip.refRow n).word ∧ rest = Ip.fieldsOf (Ip.refRow n).fmt a b c := by
  have hr : Ip.refRow n ∈ Ip.rows := by
    have h1 := (Ip.ref_all n hn).1
    unfold Ip.refRow
    cases hb : Ip.byOp (Ip.refOps.getD n 0) with
    | none => rw [hb] at h1; cases h1
    | some r => exact (Ip.byOp_op hb).1
  rw [e, itxt_list, Ip.cutAll_join _ (by simp [Ip.partsOf]) (Ip.parts_space hr a b c)] at hp
  have := List.cons.inj hp
  exact ⟨this.1.symm, this.2.symm⟩
/-- What a try at a place makes of the fields is the instruction, if there is one that has the text. -/
def Exact (s : ByteArray) (n : Nat) (A B K : Nat) : Prop := ∀ a b c : Nat, Ip.Fine (Ip.refRow n).fmt a b c → s = itxt (Ip.refRow n) a b c → A = a ∧ B = b ∧ K = c
theorem reads_tx {x : List UInt8} {n m : Nat} (h : Reads ⟨x.toArray⟩ n) (hx : x = Ip.tx m) (hm : m ≤ 4294967295) : n = m := h.2 m (by omega) (by rw [hx]; rfl)
theorem exact_FF0 {s : ByteArray} {n : Nat} {h : List UInt8} (hn : n < 39) (hp : Ip.cutAll 32 [] s.data.toList = [h]) (hP : Ip.plainB n = false) (A B K : Nat) : Exact s n A B K := by
  obtain ⟨_, _, _, h4, _⟩ := Ip.ref_all n hn
  rw [hP] at h4
  intro a b c hf e
  have hr := (rest_of hn hp e).2
  unfold Ip.fieldsOf at hr
  rw [show Ip.hasK (Ip.refRow n).fmt = true from h4] at hr
  simp at hr
theorem fine_of_right {n : Nat} (hn : n < 39) {A B K : Nat} (hK : K ≤ 4294967295) (hr : right (Ip.refRow n).op A B K = true) : Ip.Fine (Ip.refRow n).fmt A B K := by
  refine ⟨?_, hK⟩
  have hm : Ip.refRow n ∈ Ip.rows := by
    have h1 := (Ip.ref_all n hn).1
    unfold Ip.refRow
    cases hb : Ip.byOp (Ip.refOps.getD n 0) with
    | none => rw [hb] at h1; cases h1
    | some r => exact (Ip.byOp_op hb).1
  unfold right at hr
  rw [Ip.byOp_row hm] at hr
  simpa using hr
theorem notAt_right {s : ByteArray} {n : Nat} (hn : n < 39) {A B K : Nat} (hX : Exact s n A B K) (hr : right (Ip.refRow n).op A B K = false) : NotAt s n := by
  intro a b c hf e
  obtain ⟨rfl, rfl, rfl⟩ := hX a b c hf e
  have hm : Ip.refRow n ∈ Ip.rows := by
    have h1 := (Ip.ref_all n hn).1
    unfold Ip.refRow
    cases hb : Ip.byOp (Ip.refOps.getD n 0) with
    | none => rw [hb] at h1; cases h1
    | some r => exact (Ip.byOp_op hb).1
  rw [right_of hm hf] at hr
  cases hr
theorem notAt_text {s : ByteArray} {n : Nat} {A B K : Nat} (hX : Exact s n A B K) (ht : itxt (Ip.refRow n) A B K ≠ s) : NotAt s n := by
  intro a b c hf e
  obtain ⟨rfl, rfl, rfl⟩ := hX a b c hf e
  exact ht e.symm
theorem notAt_word {s : ByteArray} {n : Nat} {h : List UInt8} {rest : List (List UInt8)} (hn : n < 39) (hp : Ip.cutAll 32 [] s.data.toList = h :: rest) (hw : wordAt n ≠ ⟨h.toArray⟩) : NotAt s n := by
  intro a b c hf e
  have h1 := (rest_of hn hp e).1
  apply hw
  unfold wordAt
  rw [h1, (Ip.ref_all n hn).2.2.1]
theorem notAt_many {s : ByteArray} {n : Nat} {h : List UInt8} {rest : List (List UInt8)} (hn : n < 39) (hp : Ip.cutAll 32 [] s.data.toList = h :: rest) (hl : 4 < rest.length + 1) : NotAt s n := by
  intro a b c hf e
  have h1 := (rest_of hn hp e).2
  have h2 := Ip.parts_len (Ip.refRow n) a b c
  unfold Ip.partsOf at h2
  rw [← h1] at h2
  simp at h2
  omega
theorem op_ref (n : Nat) (hn : n < 39) : (Ip.refRow n).op = opAt n := (Ip.ref_all n hn).2.1
theorem ref_mem (n : Nat) (hn : n < 39) : Ip.refRow n ∈ Ip.rows := by
  have h1 := (Ip.ref_all n hn).1
  unfold Ip.refRow
  cases hb : Ip.byOp (Ip.refOps.getD n 0) with
  | none => rw [hb] at h1; cases h1
  | some r => exact (Ip.byOp_op hb).1
/-- A slice without its first element. -/
theorem slice_rest (g off c n : Nat) (h : n + 1 ≤ c) : ∃ a1 c1, (∀ W, (Instr.slice 68 (.slice (some ⟨g, off, none⟩) (n + 1) c) (some (.int .i64 1)) none none).run Tryd.prog W = .ok (.slice (some a1) n c1) W) ∧ n ≤ c1 ∧ (0 < n → a1 = ⟨g, off + 1, none⟩) := by
  by_cases hc1 : c = 1
  · subst hc1
    obtain rfl : n = 0 := by omega
    refine ⟨⟨g, off, none⟩, 0, fun W => ?_, by omega, fun h => by omega⟩
    go_simp
  · refine ⟨⟨g, off + 1, none⟩, c - 1, fun W => ?_, by omega, fun _ => rfl⟩
    go_simp
    intro hh
    omega
/-- What the first half of a try leaves: the number K, and the texts that are left. -/
def Half (s : ByteArray) (n k : Nat) (l : List (List UInt8)) : Prop := ∀ a b c : Nat, Ip.Fine (Ip.refRow n).fmt a b c → s = itxt (Ip.refRow n) a b c → k = c ∧ l = if Ip.branchB n then [Ip.tx a, Ip.tx b] else []
theorem half_plain {s : ByteArray} {n : Nat} {h : List UInt8} {rest : List (List UInt8)} (hn : n < 39) (hp : Ip.cutAll 32 [] s.data.toList = h :: rest) (hP : Ip.plainB n = true) : Half s n 0 rest := by
  obtain ⟨_, _, _, h4, h5, _⟩ := Ip.ref_all n hn
  rw [hP] at h4
  intro a b c hf e
  refine ⟨(Ip.fine_K hf h4).symm, ?_⟩
  rw [(rest_of hn hp e).2]
  unfold Ip.fieldsOf
  rw [h5, show Ip.hasK (Ip.refRow n).fmt = false from h4]
  rfl
theorem half_none {s : ByteArray} {n : Nat} {h : List UInt8} (hn : n < 39) (hp : Ip.cutAll 32 [] s.data.toList = [h]) (hP : Ip.plainB n = false) : Half s n 0 [] := by
  intro a b c hf e
  exact absurd e (by
    intro e
    have := (exact_FF0 hn hp hP 0 0 0 a b c hf e)
    have h2 := (exact_FF0 hn hp hP 1 1 1 a b c hf e)
    omega)
theorem half_K {s : ByteArray} {n k : Nat} {h x : List UInt8} {l : List (List UInt8)} (hn : n < 39) (hp : Ip.cutAll 32 [] s.data.toList = h :: x :: l) (hP : Ip.plainB n = false) (hk : Reads ⟨x.toArray⟩ k) : Half s n (k % 4294967296) l := by
  obtain ⟨_, _, _, h4, h5, _⟩ := Ip.ref_all n hn
  rw [hP] at h4
  intro a b c hf e
  have hr := (rest_of hn hp e).2
  unfold Ip.fieldsOf at hr
  rw [h5, show Ip.hasK (Ip.refRow n).fmt = true from h4] at hr
  have h1 := List.cons.inj hr
  have := reads_tx hk h1.1 hf.2
  have := hf.2
  exact ⟨by omega, h1.2⟩
theorem exact_plain {s : ByteArray} {n k : Nat} {l : List (List UInt8)} (hn : n < 39) (hH : Half s n k l) (hB : Ip.branchB n = false) : Exact s n 0 0 k := by
  obtain ⟨_, _, _, _, h5, _⟩ := Ip.ref_all n hn
  rw [hB] at h5
  intro a b c hf e
  have := Ip.fine_J hf h5
  have := (hH a b c hf e).1
  omega
theorem exact_len {s : ByteArray} {n k : Nat} {l : List (List UInt8)} (hH : Half s n k l) (hB : Ip.branchB n = true) (hl : l.length ≠ 2) (A B : Nat) : Exact s n A B k := by
  intro a b c hf e
  have h := (hH a b c hf e).2
  rw [hB] at h
  rw [h] at hl
  exact absurd rfl hl
theorem exact_two {s : ByteArray} {n k p q : Nat} {y z : List UInt8} (hH : Half s n k [y, z]) (hB : Ip.branchB n = true) (hy : Reads ⟨y.toArray⟩ p) (hz : Reads ⟨z.toArray⟩ q) : Exact s n (p % 256) (q % 256) k := by
  intro a b c hf e
  obtain ⟨h1, h2⟩ := hH a b c hf e
  rw [hB] at h2
  have h3 := List.cons.inj h2
  have h4 := List.cons.inj h3.2
  have hb := fine_bd hf
  have := reads_tx hy h3.1 (by omega)
  have := reads_tx hz h4.1 (by omega)
  omega
end Go.Proofs.YtbndnkicmlecoaaDoor
