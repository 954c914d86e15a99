/-
  What ins.cut answers, for any text, in every world: its parts between spaces, of which at most four are cut off.
-/
import Derived.Test.YtmbegncnbjafdaaDoorIRead
namespace Go.Proofs.YtmbegncnbjafdaaDoor
open Go.ChangeShapes Go.WideShapes Go.ChangeAt Go.RowKit
set_option maxRecDepth 20000

/-- Texts as cells. -/
abbrev strs (l : List (List UInt8)) : List Value := l.map fun (x : List UInt8) => Value.string ⟨x.toArray⟩
theorem own_iter {w : World} {base : Nat} {e : TypeId} {size : Nat} {v : Value} {n : Nat} {xs : List Value} (h : w.ownsRow base e size v n xs) {k : Nat} {s : ByteArray} {p : Nat} (hk : w.heap[k]? = some (.stringIter s p)) (q : Nat) : (w.iterAt k s q).ownsRow base e size v n xs := by
  obtain ⟨h1, h2⟩ := h
  refine ⟨h1, h2.imp id ?_⟩
  rintro ⟨g, cap, cur, hv, hg, hh, r⟩
  refine ⟨g, cap, cur, hv, hg, ?_, r⟩
  rw [Lib.iterAt_other w k g s q (fun e => by rw [e, hk] at hh; cases hh)]
  exact hh
/-- The iterator moved on: what stays. -/
theorem iter_step {w wr : World} {v : Value} {n : Nat} {xs : List Value} {s : ByteArray} {p : Nat} (ho : wr.ownsRow (w.heap.size + 1) 9 1 v n xs) (hi : wr.heap[w.heap.size]? = some (.stringIter s p)) (hb : Below w.heap.size w wr) (q : Nat) :
    ∃ W, W = wr.iterAt w.heap.size s q ∧ W.ownsRow (w.heap.size + 1) 9 1 v n xs ∧ W.heap[w.heap.size]? = some (.stringIter s q) ∧ Below w.heap.size w W :=
  ⟨_, rfl, own_iter ho hi q, Lib.iterAt_heap wr _ s p q hi, Lib.below_iterAt hb (Nat.le_refl _) s q⟩
theorem iter_pos {w : World} {k : Nat} {s : ByteArray} {p : Nat} (h : w.heap[k]? = some (.stringIter s p)) : w.iterPos k = p := by simp [World.iterPos, h]
/-- Behind an append to a row beyond it the iterator stands where it stood. -/
theorem iter_grown {w W W' : World} {v : Value} {n : Nat} {xs : List Value} (hown : W.ownsRow (w.heap.size + 1) 9 1 v n xs) {it : Obj} (hi : W.heap[w.heap.size]? = some it) (x : Value)
    (hg : (W.alloc (.cells #[x] 9)).grownBy W' v.ownBlock) : W'.heap[w.heap.size]? = some it := by
  have hl := lt_of_block hi
  rw [hg.block w.heap.size (by rw [size_alloc]; omega) (fun e => by have := (hown.lt _ e.symm).1; omega)]
  exact (Below.heap_alloc _ _ _ hl).trans hi
theorem piece_val (s : ByteArray) (a b : Nat) : Value.string (s.extract a b) = .string ⟨(Ip.piece s.data.toList a b).toArray⟩ := by rw [Ip.extract_piece]

/-- What comes of cut. -/
def CutEnd (s : ByteArray) (w : World) (e : Ending) (w' : World) : Prop := ∃ v, e = .returned v ∧ w'.ownsRow w.heap.size 9 1 v (Ip.sp 4 [] s.data.toList).length (strs (Ip.sp 4 [] s.data.toList)) ∧ Below w.heap.size w w'
theorem cutEnd {s : ByteArray} {w w' : World} {v : Value} {ps : List (List UInt8)} {x : Value} {q : List UInt8} (h : Ip.sp 4 [] s.data.toList = ps ++ [q]) (hx : x = .string ⟨q.toArray⟩) (ho : w'.ownsRow (w.heap.size + 1) 9 1 v (ps.length + 1) (strs ps ++ [x])) (hb : Below w.heap.size w w') : CutEnd s w (.returned v) w' := by
  refine ⟨v, rfl, ?_, hb⟩
  rw [h]
  subst hx
  obtain ⟨h1, h2⟩ := ho
  refine ⟨by simp, ?_⟩
  rcases h2 with ⟨_, h⟩ | ⟨g, cap, cur, hv, hg, hh, r1, r2, r3, r4⟩
  · omega
  · refine .inr ⟨g, cap, cur, ?_, by omega, hh, ?_, r2, r3, ?_⟩
    · rw [hv]; simp
    · simpa using r1
    · simpa using r4

set_option maxHeartbeats 2000000 in
theorem cut_any (s : ByteArray) (w : World) (hs : s.size ≤ 4611686018427387904) :
    Calls Tryd.prog 60 #[.string s] w fun e w' => CutEnd s w e w' := by
  obtain ⟨i0, hi, hz0, hz1, hz2⟩ := info_parts infoS
  go_enter Tryd.func60, Tryd.ntmps60
  go_wp2
  go_loopw [3, 4] (fun v st w' => ∃ (p start : Nat) (ps : List (List UInt8)), st = .int .i64 start ∧ w'.ownsRow (w.heap.size + 1) 9 1 v ps.length (strs ps) ∧ w'.heap[w.heap.size]? = some (.stringIter s p) ∧ Below w.heap.size w w' ∧ Ip.Cutting s.data.toList p start ps) (fun _ _ w' => s.size - w'.iterPos w.heap.size)
  case atStart => exact ⟨0, 0, [], rfl, World.ownsRow_nil _ _ _ _, World.iter_heap _ _ _, ba _ (Below.refl _ _), Ip.Cutting.start _⟩
  case round =>
    obtain ⟨p, start, ps, rfl, hown, hit, hB, hC⟩ := hrel
    obtain ⟨a, c, rfl⟩ := own_shape hown
    have hps := hC.2.2.1
    have hst := hC.2.1
    have hp' : p ≤ s.size := hC.1
    have HP := Lib.hid (iter_pos hit)
    have HC := Lib.hid hC
    have hsz := lt_of_block hit
    by_cases hlt : p < s.size
    · by_cases ha : (s[p]'hlt).toNat < 128
      · obtain ⟨W, hW, hO1, hI1, hB1⟩ := iter_step hown hit hB (p + 1)
        have hnx := fun ty => Lib.run_next_ascii_at (P := Tryd.prog) wr w.heap.size s p ty hit hlt ha
        rw [← hW] at hnx
        have hszW := lt_of_block hI1
        have HO1 := Lib.hid hO1
        have HI1 := Lib.hid hI1
        have HB1 := Lib.hid hB1
        clear hit hown hB hC hW hO1 hI1 hB1
        by_cases h32 : (s[p]'hlt).toNat = 32
        · have hne : (((s[p]'hlt).toNat : Int) != 32) = false := by simp; omega
          have hc : s.data.toList[p]'hlt = 32 := UInt8.toNat_inj.1 h32
          by_cases h4 : ps.length = 4
          · have he4 : ((ps.length : Int) == 4) = true := by simp; omega
            have HF := Lib.hid (HC.out.full h4)
            have H4 := Lib.hid h4
            have H32 := Lib.hid h32
            clear h4 h32 hc
            go_wp2_with (at_builtin; refine wpList_append_own _ rfl _ _ 93 rfl (w.heap.size + 1) 9 i0 (.string ⟨#[]⟩) 1 16 Tryd.underlying93 hi hz0 hz1 hz2 rfl (by decide) _ _ _ rfl (HO1.out.alloc _) ⟨W.heap.size, 0, none⟩ 1 1 [.string (s.extract start s.size)] rfl rfl (new_at W #[.string (s.extract start s.size)] 9) (by simp [Value.oneCell']) (by unfold maxLen; omega) (by omega) (by rw [size_alloc]; omega) ?_)
            intro v2 w2 hown2 hgrow2 _
            have hB2 := (ba (.cells #[.string (s.extract start s.size)] 9) HB1.out).grown hgrow2 (by rw [size_alloc]; omega) (fun k hk => Nat.le_of_succ_le (HO1.out.lt k hk).1)
            clear hgrow2
            go_wp2_with fail
            go_ret
            exact cutEnd (HF.out) (piece_val s start s.size) hown2 hB2
          · have he4 : ((ps.length : Int) == 4) = false := by simp; omega
            have HN := Lib.hid (HC.out.cut hlt hc h4)
            clear h4 h32 hc
            go_wp2_with (at_builtin; refine wpList_append_own _ rfl _ _ 93 rfl (w.heap.size + 1) 9 i0 (.string ⟨#[]⟩) 1 16 Tryd.underlying93 hi hz0 hz1 hz2 rfl (by decide) _ _ _ rfl (HO1.out.alloc _) ⟨W.heap.size, 0, none⟩ 1 1 [.string (s.extract start p)] rfl rfl (new_at W #[.string (s.extract start p)] 9) (by simp [Value.oneCell']) (by unfold maxLen; omega) (by omega) (by rw [size_alloc]; omega) ?_)
            intro v2 w2 hown2 hgrow2 _
            have hB2 := (ba (.cells #[.string (s.extract start p)] 9) HB1.out).grown hgrow2 (by rw [size_alloc]; omega) (fun k hk => Nat.le_of_succ_le (HO1.out.lt k hk).1)
            have hI2 := iter_grown HO1.out HI1.out _ hgrow2
            clear hgrow2
            go_wp2_with fail
            refine ⟨⟨p + 1, p + 1, ps ++ [Ip.piece s.data.toList start p], by go_num, ?_, hI2, hB2, HN.out⟩, ?_⟩
            · rw [piece_val] at hown2
              simpa using hown2
            · rw [iter_pos hI2, HP.out]
              omega
        · have hne : (((s[p]'hlt).toNat : Int) != 32) = true := by simp; omega
          have HN := Lib.hid (HC.out.skip 1 hlt (fun d hd => by
            rw [List.take_one, List.head?_drop, List.getElem?_eq_getElem hlt] at hd
            simp at hd
            subst hd
            intro e
            exact h32 (congrArg UInt8.toNat e)))
          clear h32
          go_wp2_with fail
          refine ⟨⟨p + 1, start, ps, rfl, HO1.out, HI1.out, HB1.out, HN.out⟩, ?_⟩
          rw [iter_pos HI1.out, HP.out]
          omega
      · have hspan := Ip.decode_span s p hlt (by omega)
        have hr0 := decode_high s p hlt (by omega)
        have hr1 := decode_le s p
        obtain ⟨W, hW, hO1, hI1, hB1⟩ := iter_step hown hit hB (p + (Utf8.decode s p).2)
        have hnx := fun ty => Lib.run_next_any_at (P := Tryd.prog) wr w.heap.size s p ty hit hlt
        rw [← hW] at hnx
        have HO1 := Lib.hid hO1
        have HI1 := Lib.hid hI1
        have HB1 := Lib.hid hB1
        have hne : (((Utf8.decode s p).1 : Int) != 32) = true := by simp; omega
        have HN := Lib.hid (HC.out.skip (Utf8.decode s p).2 hspan.1 (fun d hd => by
          obtain ⟨j, hj, rfl⟩ := List.getElem_of_mem hd
          have hj2 : j < (Utf8.decode s p).2 := by simp at hj; omega
          have h128 := hspan.2 j hj2
          have hin : p + j < s.size := by omega
          have e : s.get! (p + j) = s.data.toList[p + j]'hin := by
            simp [ByteArray.get!, getElem!_pos, hin]
          rw [e] at h128
          intro e2
          rw [List.getElem_take, List.getElem_drop] at e2
          rw [e2] at h128
          exact absurd h128 (by decide)))
        have hw1 := hr0.2
        clear hit hown hB hC hW hO1 hI1 hB1 hspan
        go_wp2_with fail
        refine ⟨⟨p + (Utf8.decode s p).2, start, ps, rfl, HO1.out, HI1.out, HB1.out, HN.out⟩, ?_⟩
        rw [iter_pos HI1.out, HP.out]
        omega
    · have hnx := fun ty => Lib.run_next_end_at (P := Tryd.prog) wr w.heap.size s p ty hit hlt
      have HF := Lib.hid (HC.out.done (by show s.size ≤ p; omega))
      have HO1 := Lib.hid hown
      have HB1 := Lib.hid hB
      clear hit hown hB hC
      obtain ⟨W, hW⟩ : ∃ W, W = wr := ⟨_, rfl⟩
      subst hW
      go_wp2_with (at_builtin; refine wpList_append_own _ rfl _ _ 93 rfl (w.heap.size + 1) 9 i0 (.string ⟨#[]⟩) 1 16 Tryd.underlying93 hi hz0 hz1 hz2 rfl (by decide) _ _ _ rfl (HO1.out.alloc _) ⟨W.heap.size, 0, none⟩ 1 1 [.string (s.extract start s.size)] rfl rfl (new_at W #[.string (s.extract start s.size)] 9) (by simp [Value.oneCell']) (by unfold maxLen; omega) (by omega) (by rw [size_alloc]; omega) ?_)
      intro v2 w2 hown2 hgrow2 _
      have hB2 := (ba (.cells #[.string (s.extract start s.size)] 9) HB1.out).grown hgrow2 (by rw [size_alloc]; omega) (fun k hk => Nat.le_of_succ_le (HO1.out.lt k hk).1)
      clear hgrow2
      go_wp2_with fail
      go_ret
      exact cutEnd (HF.out) (piece_val s start s.size) hown2 hB2
end Go.Proofs.YtmbegncnbjafdaaDoor
