/-
  The document's own way to part a text (package hurdleref02): Cut, at every byte that is the mark.
-/
import Derived.Test.YtbndnkicmlecoaaDoorICutW
import Derived.Test.YtbndnkicmlecoaaDoorIJoin
namespace Ip
open Go
/-- All parts of a text between marks. -/
def cutAll (m : UInt8) : List UInt8 → List UInt8 → List (List UInt8)
  | cur, [] => [cur]
  | cur, c :: l => if c = m then cur :: cutAll m [] l else cutAll m (cur ++ [c]) l
theorem cutAll_skip (m : UInt8) : ∀ (a cur l : List UInt8), (∀ c ∈ a, c ≠ m) → cutAll m cur (a ++ l) = cutAll m (cur ++ a) l := by
  intro a
  induction a with
  | nil => intro cur l _; simp
  | cons c a ih =>
    intro cur l h
    rw [List.cons_append, cutAll, if_neg (h c List.mem_cons_self), ih (cur ++ [c]) l (fun d hd => h d (List.mem_cons_of_mem _ hd))]
    simp
theorem cutAll_join : ∀ (ps : List (List UInt8)), ps ≠ [] → (∀ p ∈ ps, ∀ c ∈ p, c ≠ 32) → cutAll 32 [] (join ps) = ps
  | [], h, _ => absurd rfl h
  | [x], _, h => by
    have e := cutAll_skip 32 x [] [] (h x (by simp))
    rw [List.append_nil] at e
    show cutAll 32 [] x = _
    rw [e, cutAll]
    simp
  | x :: y :: l, _, h => by
    show cutAll 32 [] (x ++ 32 :: join (y :: l)) = _
    rw [cutAll_skip 32 x [] _ (h x (by simp)), cutAll, if_pos rfl, cutAll_join (y :: l) (by simp) (fun p hp => h p (List.mem_cons_of_mem _ hp))]
    simp
theorem cutAll_ne (m : UInt8) (l : List UInt8) : ∀ cur, cutAll m cur l ≠ [] := by
  induction l with
  | nil => intro cur; simp [cutAll]
  | cons c l ih => intro cur; rw [cutAll]; split <;> simp_all
theorem join_cutAll (l : List UInt8) : ∀ cur, join (cutAll 32 cur l) = cur ++ l := by
  induction l with
  | nil => intro cur; simp [cutAll, join]
  | cons c l ih =>
    intro cur
    rw [cutAll]
    split
    · rename_i h
      have e := ih []
      cases hs : cutAll 32 [] l with
      | nil => exact absurd hs (cutAll_ne 32 l [])
      | cons y t =>
        rw [hs] at e
        show cur ++ 32 :: join (y :: t) = _
        rw [e, h]
        simp
    · rw [ih]; simp
theorem cutAll_mem (m : UInt8) (l : List UInt8) : ∀ cur, ∀ y ∈ cutAll m cur l, y.length ≤ cur.length + l.length := by
  induction l with
  | nil => intro cur y hy; simp [cutAll] at hy; subst hy; simp
  | cons c l ih =>
    intro cur y hy
    rw [cutAll] at hy
    split at hy
    · rcases List.mem_cons.1 hy with rfl | hy
      · simp
      · have := ih [] y hy
        simp at this ⊢
        omega
    · have := ih (cur ++ [c]) y hy
      simp at this ⊢
      omega
theorem cutAll_len (m : UInt8) (l : List UInt8) : ∀ cur, (cutAll m cur l).length ≤ l.length + 1 := by
  induction l with
  | nil => intro cur; simp [cutAll]
  | cons c l ih =>
    intro cur
    rw [cutAll]
    split
    · have := ih []
      simp
      omega
    · have := ih (cur ++ [c])
      simp
      omega
/-- How far a text is parted. -/
def Parting (m : UInt8) (L : List UInt8) (p : Nat) (ps : List (List UInt8)) (cur : List UInt8) : Prop :=
  p ≤ L.length ∧ ps.length ≤ p ∧ cur.length ≤ p ∧ cutAll m [] L = ps ++ cutAll m cur (L.drop p)
theorem Parting.start (m : UInt8) (L : List UInt8) : Parting m L 0 [] [] := ⟨by omega, by simp, by simp, by simp⟩
theorem Parting.cut {m : UInt8} {L : List UInt8} {p : Nat} {ps : List (List UInt8)} {cur : List UInt8} (h : Parting m L p ps cur) (hp : p < L.length) (hc : L[p] = m) : Parting m L (p + 1) (ps ++ [cur]) [] := by
  obtain ⟨h1, h2, h3, h4⟩ := h
  refine ⟨hp, by simp; omega, by simp, ?_⟩
  rw [h4, List.drop_eq_getElem_cons hp, cutAll, if_pos hc]
  simp
theorem Parting.go {m : UInt8} {L : List UInt8} {p : Nat} {ps : List (List UInt8)} {cur : List UInt8} (h : Parting m L p ps cur) (hp : p < L.length) (hc : L[p] ≠ m) : Parting m L (p + 1) ps (cur ++ [L[p]]) := by
  obtain ⟨h1, h2, h3, h4⟩ := h
  refine ⟨hp, by omega, by simp; omega, ?_⟩
  rw [h4, List.drop_eq_getElem_cons hp, cutAll, if_neg hc]
theorem Parting.done {m : UInt8} {L : List UInt8} {p : Nat} {ps : List (List UInt8)} {cur : List UInt8} (h : Parting m L p ps cur) (hp : L.length ≤ p) : cutAll m [] L = ps ++ [cur] := by
  obtain ⟨h1, h2, h3, h4⟩ := h
  rw [h4, List.drop_eq_nil_of_le hp, cutAll]
end Ip
namespace Go.Proofs.YtbndnkicmlecoaaDoor
open Go.ChangeShapes Go.WideShapes Go.ChangeAt Go.RowKit
set_option maxRecDepth 20000

def CutREnd (m : UInt8) (s : ByteArray) (w : World) (e : Ending) (w' : World) : Prop := ∃ v, e = .returned v ∧ w'.ownsRow w.heap.size 9 1 v (Ip.cutAll m [] s.data.toList).length (strs (Ip.cutAll m [] s.data.toList)) ∧ Below w.heap.size w w'

theorem cutREnd {m : UInt8} {s : ByteArray} {w w' : World} {v : Value} {ps : List (List UInt8)} {q : List UInt8} (h : Ip.cutAll m [] s.data.toList = ps ++ [q]) (ho : w'.ownsRow w.heap.size 9 1 v (ps.length + 1) (strs ps ++ [.string ⟨q.toArray⟩])) (hb : Below w.heap.size w w') : CutREnd m s w (.returned v) w' := by
  refine ⟨v, rfl, ?_, hb⟩
  rw [h]
  simpa using ho
theorem grow1 (cur : List UInt8) (s : ByteArray) (p : Nat) (h : p < s.size) : (⟨cur.toArray⟩ : ByteArray) ++ s.extract p (p + 1) = ⟨(cur ++ [s.data.toList[p]'h]).toArray⟩ := by
  rw [Ip.extract_piece, Wd.joined]
  have e : Ip.piece s.data.toList p (p + 1) = [s.data.toList[p]'h] := by
    unfold Ip.piece
    rw [List.take_succ_eq_append_getElem h, List.drop_append_of_le_length (by rw [List.length_take]; have h' : p < s.data.toList.length := h; omega)]
    rw [List.drop_eq_nil_of_le (by simp; omega), List.nil_append]
  rw [e]

set_option maxHeartbeats 2000000 in
theorem rcut_any (s : ByteArray) (m : UInt8) (w : World) (hs : s.size ≤ 1099511627776) :
    Calls Tryd.prog 33 #[.string s, .int .u8 m.toNat] w fun e w' => CutREnd m s w e w' := by
  obtain ⟨i0, hi, hz0, hz1, hz2⟩ := info_parts infoS
  go_enter Tryd.func33, Tryd.ntmps33
  go_wp2_with fail
  go_loopw [5, 6, 7] (fun v cw i w' => ∃ (p : Nat) (ps : List (List UInt8)) (cur : List UInt8), i = .int .i64 p ∧ cw = .string ⟨cur.toArray⟩ ∧ w'.ownsRow w.heap.size 9 1 v ps.length (strs ps) ∧ Below w.heap.size w w' ∧ Ip.Parting m s.data.toList p ps cur) (fun _ _ i _ => s.size - (intOf i).toNat)
  case atStart => exact ⟨0, [], [], rfl, rfl, World.ownsRow_nil _ _ _ _, Below.refl _ _, Ip.Parting.start _ _⟩
  case round =>
    obtain ⟨p, ps, cur, rfl, rfl, hown, hB, hC⟩ := hrel
    have hp' : p ≤ s.size := hC.1
    have hps := hC.2.1
    have hcl : (⟨cur.toArray⟩ : ByteArray).size ≤ p := hC.2.2.1
    have HC := Lib.hid hC
    have HO := Lib.hid hown
    have HB := Lib.hid hB
    have hle := hB.size
    clear hC hown hB
    by_cases hlt : p < s.size
    · by_cases hm : s.data.toList[p]'hlt = m
      · have hbq : (((s[p]'hlt).toNat : Int) == (m.toNat : Int)) = true := by
          have e : s[p]'hlt = m := hm
          rw [e]
          exact beq_self_eq_true _
        have HN := Lib.hid (HC.out.cut hlt hm)
        clear hm
        go_wp2_with (at_builtin; refine wpList_append_own _ rfl _ _ 68 rfl w.heap.size 9 i0 (.string ⟨#[]⟩) 1 16 Tryd.underlying68 hi hz0 hz1 hz2 rfl (by decide) _ _ _ rfl (HO.out.alloc _) ⟨wr.heap.size, 0, none⟩ 1 1 [.string ⟨cur.toArray⟩] rfl rfl (new_at wr #[.string ⟨cur.toArray⟩] 9) (by simp [Value.oneCell']) (by unfold maxLen; omega) (by omega) (by rw [size_alloc]; omega) ?_)
        intro v2 w2 hown2 hgrow2 _
        have hB2 := (ba (.cells #[.string ⟨cur.toArray⟩] 9) HB.out).grown hgrow2 (by rw [size_alloc]; omega) (fun k hk => (HO.out.lt k hk).1)
        clear hgrow2
        go_wp2_with fail
        refine ⟨⟨p + 1, ps ++ [cur], [], by go_num, rfl, ?_, hB2, HN.out⟩, by simp [intOf]; omega⟩
        simpa using hown2
      · have hbq : (((s[p]'hlt).toNat : Int) == (m.toNat : Int)) = false := by
          rw [beq_eq_false_iff_ne]
          intro e
          apply hm
          apply UInt8.toNat_inj.1
          exact Int.ofNat.inj e
        have HN := Lib.hid (HC.out.go hlt hm)
        have HG := Lib.hid (grow1 cur s p hlt)
        have hsl : ∀ W, (Instr.slice 9 (.string s) (some (.int .i64 (p : Int))) (some (.int .i64 ((p : Int) + 1))) none).run Tryd.prog W = .ok (.string (s.extract p (p + 1))) W := fun W => by
          have h := run_slice_string (P := Tryd.prog) W 9 s .i64 .i64 (p : Int) ((p : Int) + 1) Tryd.underlying9 (by omega) (by omega) (by omega)
          rw [h]
          rfl
        have hz : (s.extract p (p + 1)).size ≤ 1 := by rw [ByteArray.size_extract]; omega
        generalize hsC : (⟨cur.toArray⟩ : ByteArray) = sC at *
        generalize hsE : s.extract p (p + 1) = sE at *
        have hn : ¬ 9223372036854775807 < sC.size + sE.size := by omega
        have HSC := Lib.hid hsC
        clear hm hsC hsE
        go_wp2_with fail
        refine ⟨⟨p + 1, ps, _, by go_num, ?_, HO.out, HB.out, HN.out⟩, by simp [intOf]; omega⟩
        rw [← HG.out]
    · have HF := Lib.hid (HC.out.done (by show s.size ≤ p; omega))
      go_wp2_with (at_builtin; refine wpList_append_own _ rfl _ _ 68 rfl w.heap.size 9 i0 (.string ⟨#[]⟩) 1 16 Tryd.underlying68 hi hz0 hz1 hz2 rfl (by decide) _ _ _ rfl (HO.out.alloc _) ⟨wr.heap.size, 0, none⟩ 1 1 [.string ⟨cur.toArray⟩] rfl rfl (new_at wr #[.string ⟨cur.toArray⟩] 9) (by simp [Value.oneCell']) (by unfold maxLen; omega) (by omega) (by rw [size_alloc]; omega) ?_)
      intro v2 w2 hown2 hgrow2 _
      have hB2 := (ba (.cells #[.string ⟨cur.toArray⟩] 9) HB.out).grown hgrow2 (by rw [size_alloc]; omega) (fun k hk => (HO.out.lt k hk).1)
      clear hgrow2
      go_wp2_with fail
      go_ret
      exact cutREnd HF.out hown2 hB2
end Go.Proofs.YtbndnkicmlecoaaDoor
