/-
  The document's Needed (package hurdleref07): what is needed at a place of a sound filter.
-/
import Derived.Test.YtmbegncnbjafdaaDoorVRMask
import Derived.Test.YtmbegncnbjafdaaDoorKRNext
import Derived.Deep.OwnRows
namespace Go.Proofs.YtmbegncnbjafdaaDoor
open Go.ChangeShapes Go.WideShapes Go.ChangeAt Go.RowKit
set_option maxRecDepth 20000

/-- What is needed at a place of a filter. -/
def liveF (f : List X4) (p i : Nat) : Bool := liveP f f.length p i
theorem any_same {l : List Int} {P Q : Int → Bool} (h : ∀ q ∈ l, P q = Q q) : l.any P = l.any Q := by
  rw [Bool.eq_iff_iff]
  simp only [List.any_eq_true]
  constructor
  · rintro ⟨q, hq, hp⟩
    exact ⟨q, hq, by rw [← h q hq]; exact hp⟩
  · rintro ⟨q, hq, hp⟩
    exact ⟨q, hq, by rw [h q hq]; exact hp⟩
theorem liveF_eq {f : List X4} (hs : SoundL f) (hok : ∀ x ∈ f, x.ok) {p : Nat} (hp : p < f.length) (i : Nat) :
    liveF f p i = (usesP f[p] i || ((nextX f[p] p).any (fun q => liveF f q.toNat i) && !setsP f[p] i)) := by
  unfold liveF
  obtain ⟨n, hn⟩ : ∃ n, f.length = n + 1 := ⟨f.length - 1, by omega⟩
  have e : liveP f f.length p i = liveP f (n + 1) p i := by rw [hn]
  have hin := next_in hs hok hp
  rw [e, liveP_succ, getD_at hp, any_same (Q := fun q => liveP f f.length q.toNat i)]
  intro q hq
  have := hin q hq
  exact live_more hs hok i n f.length q.toNat (by omega) (by omega) (by omega)
/-- The row of what was found so far. -/
def needC (f : List X4) (i n : Nat) : Array Value := ((List.range f.length).map fun j => Value.bool (decide (n ≤ j) && liveF f j i)).toArray
theorem needC_size (f : List X4) (i n : Nat) : (needC f i n).size = f.length := by simp [needC]
theorem needC_at {f : List X4} {i n j : Nat} (h : j < f.length) : (needC f i n)[j]? = some (.bool (decide (n ≤ j) && liveF f j i)) := by
  simp [needC, h]
theorem needC_full (f : List X4) (i : Nat) : madeCells #[.bool false] f.length = needC f i f.length := by
  apply Array.toList_inj.1
  rw [toList_madeCells_one]
  unfold needC
  apply List.ext_getElem (by simp)
  intro j h1 h2
  have h3 : j < f.length := by simpa using h1
  have h4 : decide (f.length ≤ j) = false := decide_eq_false (by omega)
  simp [h4]
def bitK (x : X4) (f : List X4) (i : Nat) (L : List Int) (k : Nat) : Bool := usesP x i || ((L.take k).any (fun q => liveF f q.toNat i) && !setsP x i)
def needK (f : List X4) (i m : Nat) (x : X4) (L : List Int) (k : Nat) : Array Value := (needC f i (m + 1)).setIfInBounds m (.bool (bitK x f i L k))
section
variable {f : List X4} {i m : Nat} {x : X4} {L : List Int} {k : Nat}
theorem needK_size : (needK f i m x L k).size = f.length := by simp [needK, needC_size]
theorem needK_at {q : Nat} (h : m < q) (hq : q < f.length) : (needK f i m x L k)[q]? = some (.bool (liveF f q i)) := by
  unfold needK
  rw [Array.getElem?_setIfInBounds_ne (by omega), needC_at hq, decide_eq_true (by omega), Bool.true_and]
theorem needK_int (j : Nat) (a : Int) : (needK f i m x L k)[j]? ≠ some (.int .i64 a) := by
  intro h
  unfold needK at h
  by_cases hj : m = j
  · subst hj
    rw [Array.getElem?_setIfInBounds_self] at h
    split at h <;> cases h
  · rw [Array.getElem?_setIfInBounds_ne hj] at h
    by_cases hf : j < f.length
    · rw [needC_at hf] at h
      cases h
    · rw [Array.getElem?_eq_none (by rw [needC_size]; omega)] at h
      cases h
theorem needK_zero : (needC f i (m + 1)).setIfInBounds m (.bool (usesP x i)) = needK f i m x L 0 := by simp [needK, bitK]
theorem any_upto (h : k < L.length) (Q : Int → Bool) : (L.take (k + 1)).any Q = ((L.take k).any Q || Q L[k]) := by
  rw [List.take_succ_eq_append_getElem h, List.any_append]
  simp
theorem needK_no (h : k < L.length) (hq : liveF f L[k].toNat i = false ∨ setsP x i = true) : needK f i m x L (k + 1) = needK f i m x L k := by
  unfold needK bitK
  rw [any_upto h]
  rcases hq with h | h
  · rw [h, Bool.or_false]
  · rw [h]
    simp
theorem needK_yes (h : k < L.length) (hq : liveF f L[k].toNat i = true) (hs : setsP x i = false) : (needK f i m x L k).setIfInBounds m (.bool true) = needK f i m x L (k + 1) := by
  unfold needK bitK
  rw [any_upto h, hq, hs, Array.setIfInBounds_setIfInBounds]
  simp
end
theorem needK_last {f : List X4} (hs : SoundL f) (hok : ∀ x ∈ f, x.ok) {i m : Nat} (hm : m < f.length) : needK f i m f[m] (nextX f[m] m) (nextX f[m] m).length = needC f i m := by
  unfold needK bitK
  rw [List.take_length, ← liveF_eq hs hok hm]
  apply Array.ext_getElem?
  intro j
  by_cases hj : m = j
  · subst hj
    rw [Array.getElem?_setIfInBounds_self, if_pos (by rw [needC_size]; exact hm), needC_at hm, decide_eq_true (Nat.le_refl _), Bool.true_and]
  · rw [Array.getElem?_setIfInBounds_ne hj]
    by_cases hf : j < f.length
    · rw [needC_at hf, needC_at hf]
      have : decide (m + 1 ≤ j) = decide (m ≤ j) := by rw [Bool.eq_iff_iff]; simp; omega
      rw [this]
    · rw [Array.getElem?_eq_none (by rw [needC_size]; omega), Array.getElem?_eq_none (by rw [needC_size]; omega)]
/-- Integers in another row than the one that was written. -/
theorem IAt.put {w w' : World} {g : Nat} {o : Obj} {C : Array Value} {t : TypeId} {v : Value} {l : List Int} (h : IAt w v l) (hp : RowPut w w' g o) (hG : w.heap[g]? = some (.cells C t)) (hC : ∀ (j : Nat) (a : Int), C[j]? ≠ some (Value.int .i64 a)) : IAt w' v l := by
  obtain ⟨ao, cap, rfl, h⟩ := h
  refine ⟨ao, cap, rfl, ?_⟩
  rcases h with h | ⟨b, off, rfl, hl, hc⟩
  · exact .inl h
  · by_cases h0 : l.length = 0
    · exact .inl (List.length_eq_zero_iff.1 h0)
    · have hne : b ≠ g := by
        rintro rfl
        have := hc 0 (by omega)
        rw [cell_in hG] at this
        exact hC _ _ this
      refine .inr ⟨b, off, rfl, by rw [hp.size]; exact hl, fun i hi => ?_⟩
      obtain ⟨o', ho'⟩ : ∃ o', w.heap[b]? = some o' := ⟨_, Array.getElem?_eq_getElem hl⟩
      have h1 := hc i hi
      unfold World.cell? at h1 ⊢
      rw [hp.rest b hne]
      exact h1
section
variable {ops : Array Oper} {rest : List Oper} {o : Oper} {a : Act} {w : World} {Q : Exit → Act → World → Prop}
/-- One truth value of a row is written. -/
theorem st_bool {g i : Nat} {old new : Array Value} {t : TypeId} {b : Bool} {x y : Operand} (hs : old.setIfInBounds i (.bool b) = new) (hG : w.heap[g]? = some (.cells old t)) (hi : i < old.size) (hgd : o.guard = none) (ho : o.op = .store 4 x y) (hx : a.eval x = .pointer (some ⟨g, i, none⟩)) (hy : a.eval y = .bool b)
    (h : ∀ w', RowPut w w' g (.cells new t) → wpList Tryd.prog ops Q rest (a.put o.dst undef) w') : wpList Tryd.prog ops Q (o :: rest) a w := by
  obtain ⟨u, hu⟩ : ∃ u, w.cell? ⟨g, i, none⟩ = some u := ⟨old[i]'hi, by rw [cell_in hG]; exact Array.getElem?_eq_getElem _⟩
  have hf : w.frozen? ⟨g, i, none⟩ = false := free_in hG i
  have hsc : w.setCell ⟨g, i, none⟩ (.bool b) = w.setRow g new := by rw [setCell_eq_setRow w g i _ _ _ _ hG, hs]
  have hk := h _ (rowPut_set hG new)
  rw [← hsc] at hk
  refine wpList_plain hgd fun K hK => ?_
  unfold Oper.wp execOp
  have hz : (sizeOf 4).run Tryd.prog w = .ok 1 w := by kernel_rfl
  simp [ho, hx, hy, Instr.storeAt, Instr.sureAddr, Sem.run_bind, storeVar, hz, Value.cells, storeCells, Result.andThen]
  have hadd : (⟨g, i, none⟩ : Addr).add 0 = ⟨g, i, none⟩ := by unfold Addr.add; split <;> simp_all
  rw [hadd, run_store _ _ _ _ _ rfl, hu]
  simp only [hf, Bool.false_eq_true, if_false]
  exact hK _ _ hk
end
theorem infoT : (Tryd.prog.info? 4).map (fun i => (i.zero, i.size, i.bytes)) = some (some (.bool false), 1, 1) := by kernel_rfl

set_option maxHeartbeats 8000000 in
theorem rneed_any (v : Value) (f : List X4) (p part : Nat) (w : World) (hF : FAt w v f) (hok : ∀ x ∈ f, x.ok) (hs : soundB f = true) (hp : p < f.length) (hpt : part < 18) :
    Calls Tryd.prog 31 #[v, .int .i64 p, .int .i64 part] w fun e w' => e = .returned (.bool (liveF f p part)) ∧ Below w.heap.size w w' := by
  have HSB := Lib.hid hs
  have HSd := Lib.hid (soundB_iff.1 hs)
  have hlen : f.length ≤ 4096 := HSd.out.2.1
  have HF := Lib.hid hF
  have HO := Lib.hid hok
  obtain ⟨ao, cap, rfl, hF'⟩ := hF
  rcases hF' with h0 | ⟨b, off, rfl, hb, hc⟩
  · rw [h0] at hp; simp at hp
  have HC := Lib.hid hc
  have hmk := fun W => run_make_row' (P := Tryd.prog) 56 4 (.bool false) 1 Tryd.underlying56 infoT rfl .i64 .i64 f.length (by omega) (by omega) W
  rw [needC_full f part] at hmk
  have HG0 := Lib.hid (heap_alloc_new w (.cells (needC f part f.length) 4))
  have HB0 := Lib.hid (ba (.cells (needC f part f.length) 4) (Below.refl w.heap.size w))
  clear hc hs hok
  go_enter Tryd.func31, Tryd.ntmps31
  go_wp2_with fail
  clear hmk
  go_loopw [8] (fun i wr => ∃ n : Nat, p ≤ n ∧ n ≤ f.length ∧ i = .int .i64 ((n : Int) - 1) ∧ wr.heap[w.heap.size]? = some (.cells (needC f part n) 4) ∧ Below w.heap.size w wr) (fun i _ => (intOf i + 1).toNat)
  case atStart => exact ⟨f.length, by omega, by omega, by go_num, HG0.out, HB0.out⟩
  case round =>
    clear HG0 HB0
    obtain ⟨n, hn0, hn1, rfl, hg, hbw⟩ := hrel
    have HG := Lib.hid hg
    have HB := Lib.hid hbw
    clear hg hbw
    by_cases hlt : p < n
    · obtain ⟨m, rfl⟩ : ∃ m, n = m + 1 := ⟨n - 1, by omega⟩
      have e1 : ((m + 1 : Nat) : Int) - 1 = m := by omega
      have hmf : m < f.length := by omega
      obtain ⟨c0, c1, c2, c3⟩ := HC.out m hmf
      have d0 := (HB.out.cell (p := ⟨b, _, none⟩) hb).trans c0
      have d1 := (HB.out.cell (p := ⟨b, _, none⟩) hb).trans c1
      have d2 := (HB.out.cell (p := ⟨b, _, none⟩) hb).trans c2
      have d3 := (HB.out.cell (p := ⟨b, _, none⟩) hb).trans c3
      have HXo := Lib.hid (HO.out _ (List.getElem_mem hmf))
      have HNX := Lib.hid (rnext_any (.slice (some ⟨b, off, none⟩) f.length cap) f m)
      have HLAST := Lib.hid (needK_last HSd.out HO.out (i := part) hmf)
      have HIN := Lib.hid (next_in HSd.out HO.out hmf)
      have HFC := Lib.hid (HC.out m hmf)
      have HL2 := Lib.hid (nextX_short f[m] m)
      rw [e1]
      clear e1 c0 c1 c2 c3
      obtain ⟨x, hx⟩ : ∃ x, x = f[m] := ⟨_, rfl⟩
      have HNX' : Hid (∀ w1, FAt w1 (.slice (some ⟨b, off, none⟩) f.length cap) f → Calls Tryd.prog 32 #[.slice (some ⟨b, off, none⟩) f.length cap, .int .i64 m] w1 (IEnd (nextX x m) w1)) := Lib.hid (fun w1 h1 => by rw [hx]; exact HNX.out w1 h1 HO.out hmf HSB.out)
      rw [← hx] at d0 d1 d2 d3 HXo HLAST HIN HFC HL2
      clear hx HNX
      obtain ⟨op, jt, jf, kk⟩ := x
      obtain ⟨k, hk, hk4⟩ : ∃ k : Nat, kk = k ∧ k < 4294967296 := ⟨kk.toNat, by have := HXo.out.1; simp only at this; omega, by have := HXo.out.1; have := HXo.out.2; simp only at *; omega⟩
      subst hk
      go_wp2_with fail
      refine (rUses_any op jt jf k part _ hk4 hpt).mono ?_
      rintro e w1 ⟨rfl, hb1⟩
      have HG1 := Lib.hid (kb hb1 HG.out)
      have HB1 := Lib.hid (HB.out.trans (hb1.mono HB.out.size))
      obtain ⟨L, hL⟩ : ∃ L, L = nextX ⟨op, jt, jf, k⟩ m := ⟨_, rfl⟩
      rw [← hL] at HNX' HLAST HIN HL2
      have HZ := Lib.hid (needK_zero (f := f) (i := part) (m := m) (x := ⟨op, jt, jf, k⟩) (L := L))
      clear hb1 d0 d1 d2 d3 HG HB hL
      go_wp2_with (refine st_bool HZ.out HG1.out (by rw [needC_size]; exact hmf) rfl rfl rfl rfl ?_; intro W2 hp2; have HP2 := Lib.hid hp2; clear hp2)
      have HB2 := Lib.hid (HP2.out.below HB1.out (by omega))
      refine (HNX'.out W2 (HF.out.below HB2.out)).mono ?_
      rintro e w3 ⟨u, rfl, hu, hb3⟩
      obtain ⟨ao3, cap3, rfl⟩ := hu.shape
      have HU3 := Lib.hid hu
      have HG3 := Lib.hid (kb hb3 HP2.out.row)
      have HB3 := Lib.hid (HB2.out.trans (hb3.mono HB2.out.size))
      have hLl := HL2.out
      clear hu hb3 HP2 HB2 HG1 HB1 HNX' HZ
      go_wp2_with fail
      go_loopw [10] (fun i wr => ∃ k' : Nat, k' ≤ L.length ∧ i = .int .i64 k' ∧ wr.heap[w.heap.size]? = some (.cells (needK f part m ⟨op, jt, jf, k⟩ L k') 4) ∧ IAt wr (.slice ao3 L.length cap3) L ∧ Below w.heap.size w wr) (fun i _ => L.length - (intOf i).toNat)
      case atStart => exact ⟨0, by omega, rfl, HG3.out, HU3.out, HB3.out⟩
      case round =>
        clear HG3 HU3 HB3
        obtain ⟨q, hq, rfl, hg, hu, hbw⟩ := hrel
        have HG := Lib.hid hg
        have HU := Lib.hid hu
        have HB := Lib.hid hbw
        clear hg hu hbw
        by_cases hql : q < L.length
        · have hq2 := HIN.out _ (List.getElem_mem hql)
          obtain ⟨ao4, cap4, hv4, hI⟩ := HU.out
          rcases hI with h0 | ⟨b4, off4, hao, hb4, hc4⟩
          · rw [h0] at hql; simp at hql
          cases hv4
          subst hao
          have l0 := hc4 q hql
          obtain ⟨y, hy⟩ : ∃ y : Nat, L[q] = y := ⟨L[q].toNat, by omega⟩
          have HNO := Lib.hid (needK_no (f := f) (i := part) (m := m) (x := ⟨op, jt, jf, k⟩) hql)
          have HYES := Lib.hid (needK_yes (f := f) (i := part) (m := m) (x := ⟨op, jt, jf, k⟩) hql)
          rw [hy] at l0 hq2 HNO HYES
          rw [Int.toNat_natCast] at HNO HYES
          obtain ⟨hq3, hq4⟩ := hq2
          have g0 := (cell_in HG.out y).trans (needK_at (f := f) (i := part) (x := ⟨op, jt, jf, k⟩) (L := L) (k := q) (m := m) (by omega) (by omega))
          obtain ⟨c0, c1, c2, c3⟩ := HFC.out
          have d0 := (HB.out.cell (p := ⟨b, _, none⟩) hb).trans c0
          have d1 := (HB.out.cell (p := ⟨b, _, none⟩) hb).trans c1
          have d2 := (HB.out.cell (p := ⟨b, _, none⟩) hb).trans c2
          have d3 := (HB.out.cell (p := ⟨b, _, none⟩) hb).trans c3
          clear hc4 hy c0 c1 c2 c3
          cases hlv : liveF f y part
          · rw [hlv] at g0
            have HN := Lib.hid (HNO.out (.inl hlv))
            clear HNO HYES hlv
            go_wp2_with fail
            go_roundw
            case rel => exact ⟨q + 1, by omega, by go_num, by rw [HN.out]; exact HG.out, HU.out, HB.out⟩
            case measure => simp [intOf]; omega
          · rw [hlv] at g0
            have HLV := Lib.hid hlv
            clear hlv
            go_wp2_with fail
            refine (rSets_any op jt jf k part _ hk4 hpt).mono ?_
            rintro e w5 ⟨rfl, hb5⟩
            have HG5 := Lib.hid (kb hb5 HG.out)
            have HU5 := Lib.hid (HU.out.below hb5)
            have HB5 := Lib.hid (HB.out.trans (hb5.mono HB.out.size))
            clear hb5 l0 g0 d0 d1 d2 d3
            cases hset : setsP ⟨op, jt, jf, k⟩ part
            · have HN := Lib.hid (HYES.out HLV.out hset)
              clear HNO HYES hset
              go_wp2_with (refine st_bool HN.out HG5.out (by rw [needK_size]; exact hmf) rfl rfl rfl rfl ?_; intro W6 hp6; have HP6 := Lib.hid hp6; clear hp6)
              go_roundw
              case rel => exact ⟨q + 1, by omega, by go_num, HP6.out.row, IAt.put HU5.out HP6.out HG5.out (fun _ _ => needK_int _ _), HP6.out.below HB5.out (by omega)⟩
              case measure => simp [intOf]; omega
            · have HN := Lib.hid (HNO.out (.inr hset))
              clear HNO HYES hset
              go_wp2_with fail
              go_roundw
              case rel => exact ⟨q + 1, by omega, by go_num, by rw [HN.out]; exact HG5.out, HU5.out, HB5.out⟩
              case measure => simp [intOf]; omega
        · obtain rfl : q = L.length := by omega
          rw [HLAST.out] at HG
          go_wp2_with fail
          go_roundw
          case rel => exact ⟨m, by omega, by omega, by go_num, HG.out, HB.out⟩
          case measure => simp [intOf]
    · obtain rfl : n = p := by omega
      have g0 := (cell_in HG.out n).trans (needC_at (f := f) (i := part) (n := n) hp)
      have hd : decide (n ≤ n) = true := by simp
      rw [hd, Bool.true_and] at g0
      clear hd
      go_wp2_with fail
      go_ret
      exact ⟨rfl, HB.out⟩
end Go.Proofs.YtmbegncnbjafdaaDoor
