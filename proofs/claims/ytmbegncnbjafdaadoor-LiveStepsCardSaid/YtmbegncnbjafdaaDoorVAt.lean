/-
  What live.behind, live.At and live.Behind answer.
-/
import Derived.Test.YtmbegncnbjafdaaDoorVLeaf
import Derived.Test.YtmbegncnbjafdaaDoorVNeed
import Derived.Test.YtmbegncnbjafdaaDoorVRAt
import Derived.Deep.RegionHeld3
import Derived.BigRegion
namespace Go.Proofs.YtmbegncnbjafdaaDoor
open Go.ChangeShapes Go.WideShapes Go.ChangeAt Go.RowKit
set_option maxRecDepth 20000

/-- Masks that lie in a world. -/
def MAt (w : World) (v : Value) (l : List Nat) : Prop :=
  ∃ ao cap, v = .slice ao l.length cap ∧ (l = [] ∨ ∃ b off, ao = some ⟨b, off, none⟩ ∧ b < w.heap.size ∧ ∀ i (h : i < l.length), w.cell? ⟨b, off + i, none⟩ = some (.int .u32 (l[i] : Nat)))
theorem MAt.below {w w' : World} {v : Value} {l : List Nat} (h : MAt w v l) (hb : Below w.heap.size w w') : MAt w' v l := by
  obtain ⟨ao, cap, rfl, h⟩ := h
  refine ⟨ao, cap, rfl, h.imp id ?_⟩
  rintro ⟨b, off, rfl, hl, hc⟩
  exact ⟨b, off, rfl, Nat.lt_of_lt_of_le hl hb.size, fun i hi => (hb.cell (p := ⟨b, _, none⟩) hl).trans (hc i hi)⟩
theorem MAt.shape {w : World} {v : Value} {l : List Nat} (h : MAt w v l) : ∃ ao cap, v = .slice ao l.length cap := by
  obtain ⟨ao, cap, rfl, _⟩ := h
  exact ⟨ao, cap, rfl⟩
/-- The masks from a place on. -/
def fromM (f : List X4) (p : Nat) : List Nat := (List.range (f.length - p)).map fun j => maskN (liveF f (p + j)) 18
theorem fromM_len (f : List X4) (p : Nat) : (fromM f p).length = f.length - p := by simp [fromM]
theorem fromM_at {f : List X4} {p j : Nat} (h : j < (fromM f p).length) : (fromM f p)[j] = maskN (liveF f (p + j)) 18 := by simp [fromM]
section
variable {f : List X4} {p : Nat}
theorem beh_ends (h : endsE (f.getD p zeroX) = true) : maskN (behF f p) 18 = 0 := maskN_none fun i _ => by
  unfold behF nextX
  rw [if_pos h]
  rfl
theorem beh_ja (h : endsE (f.getD p zeroX) = false) {k : Nat} (h5 : (f.getD p zeroX).op = 5) (hk : (f.getD p zeroX).k = k) : maskN (behF f p) 18 = maskN (liveF f (p + 1 + k)) 18 := maskN_congr _ fun i _ => by
  unfold behF nextX
  rw [h, h5, hk, show ((5 : Int) == 5) = true from rfl]
  simp only [Bool.false_eq_true, if_false, if_true, List.any_cons, List.any_nil, Bool.or_false]
  rw [show ((p : Int) + 1 + k).toNat = p + 1 + k by omega]
theorem beh_next (h : endsE (f.getD p zeroX) = false) (h5 : ¬ (f.getD p zeroX).op = 5) (hB : isBranch (f.getD p zeroX).op = false) : maskN (behF f p) 18 = maskN (liveF f (p + 1)) 18 := maskN_congr _ fun i _ => by
  have e5 : ((f.getD p zeroX).op == 5) = false := by simpa using h5
  unfold behF nextX
  rw [h, e5, hB]
  simp only [Bool.false_eq_true, if_false, List.any_cons, List.any_nil, Bool.or_false]
  rw [show ((p : Int) + 1).toNat = p + 1 by omega]
theorem beh_branch (h : endsE (f.getD p zeroX) = false) (h5 : ¬ (f.getD p zeroX).op = 5) (hB : isBranch (f.getD p zeroX).op = true) {s t : Nat} (hs : (f.getD p zeroX).jt = s) (ht : (f.getD p zeroX).jf = t) :
    maskN (behF f p) 18 = maskN (fun i => liveF f (p + 1 + s) i || liveF f (p + 1 + t) i) 18 := maskN_congr _ fun i _ => by
  have e5 : ((f.getD p zeroX).op == 5) = false := by simpa using h5
  unfold behF nextX
  rw [h, e5, hB, hs, ht]
  simp only [Bool.false_eq_true, if_false, if_true]
  by_cases hst : s = t
  · subst hst
    simp only [BEq.rfl, if_true, List.any_cons, List.any_nil, Bool.or_false, Bool.or_self]
    rw [show ((p : Int) + 1 + s).toNat = p + 1 + s by omega]
  · have hne : ((s : Int) == (t : Int)) = false := by simp; omega
    rw [hne]
    simp only [Bool.false_eq_true, if_false, List.any_cons, List.any_nil, Bool.or_false]
    rcases Nat.lt_or_gt_of_ne hst with hlt | hlt
    · rw [Int.min_eq_left (by omega), Int.max_eq_right (by omega), show ((p : Int) + 1 + s).toNat = p + 1 + s by omega, show ((p : Int) + 1 + t).toNat = p + 1 + t by omega]
    · rw [Int.min_eq_right (by omega), Int.max_eq_left (by omega), show ((p : Int) + 1 + s).toNat = p + 1 + s by omega, show ((p : Int) + 1 + t).toNat = p + 1 + t by omega, Bool.or_comm]
end
theorem places_in {f : List X4} (hs : SoundL f) (hok : ∀ x ∈ f, x.ok) {p : Nat} (hp : p < f.length) (he : endsE (f.getD p zeroX) = false) :
    ((f.getD p zeroX).op = 5 → ∃ k : Nat, (f.getD p zeroX).k = k ∧ p + 1 + k < f.length) ∧ (¬ (f.getD p zeroX).op = 5 → isBranch (f.getD p zeroX).op = true → ∃ s t : Nat, (f.getD p zeroX).jt = s ∧ (f.getD p zeroX).jf = t ∧ p + 1 + s < f.length ∧ p + 1 + t < f.length) ∧ (¬ (f.getD p zeroX).op = 5 → isBranch (f.getD p zeroX).op = false → p + 1 < f.length) := by
  have hin := next_in hs hok hp
  have hkk := hok _ (List.getElem_mem hp)
  have hb0 := hs.2.2.1 p hp
  rw [badAt_at hp] at hb0
  obtain ⟨j0, j1, _, _⟩ := right_jumps (one_right hb0)
  obtain ⟨k0, k1⟩ := hkk
  rw [getD_at hp] at he ⊢
  generalize f[p] = x at *
  unfold nextX at hin
  rw [he] at hin
  simp only [Bool.false_eq_true, if_false] at hin
  refine ⟨fun h5 => ?_, fun h5 hB => ?_, fun h5 hB => ?_⟩
  · have e5 : (x.op == 5) = true := by simpa using h5
    rw [e5] at hin
    have := hin _ (List.mem_singleton.2 rfl)
    exact ⟨x.k.toNat, by omega, by omega⟩
  · have e5 : (x.op == 5) = false := by simpa using h5
    rw [e5, hB] at hin
    simp only [Bool.false_eq_true, if_false, if_true] at hin
    refine ⟨x.jt.toNat, x.jf.toNat, by omega, by omega, ?_⟩
    by_cases hJ : x.jt = x.jf
    · have : (x.jt == x.jf) = true := by simpa using hJ
      rw [this] at hin
      have := hin _ (List.mem_singleton.2 rfl)
      omega
    · have : (x.jt == x.jf) = false := by simpa using hJ
      rw [this] at hin
      simp only [Bool.false_eq_true, if_false] at hin
      have h1 := hin _ (List.mem_cons_self ..)
      have h2 := hin _ (List.mem_cons_of_mem _ (List.mem_singleton.2 rfl))
      omega
  · have e5 : (x.op == 5) = false := by simpa using h5
    rw [e5, hB] at hin
    have := hin _ (List.mem_singleton.2 rfl)
    omega
set_option maxHeartbeats 4000000 in
theorem lbehind_any (f : List X4) (p : Nat) (op jt jf : Int) (k : Nat) (v : Value) (w : World) (hs : SoundL f) (hok : ∀ x ∈ f, x.ok) (hp : p < f.length) (hx : f.getD p zeroX = ⟨op, jt, jf, k⟩) (hF : MAt w v (fromM f (p + 1))) (ht : OTab w) :
    Calls Tryd.prog 29 #[insV op jt jf k, v] w fun e w' => e = .returned (.int .u32 (maskN (behF f p) 18 : Nat)) ∧ Below w.heap.size w w' := by
  have HPL := Lib.hid (fun he => places_in hs hok hp he)
  have HEN := Lib.hid (beh_ends (f := f) (p := p))
  have HJA := Lib.hid (@beh_ja f p)
  have HNX := Lib.hid (@beh_next f p)
  have HBR := Lib.hid (@beh_branch f p)
  rw [hx] at HPL HEN HJA HNX HBR
  have HB0 := Lib.hid (ba (insB op jt jf k) (Below.refl w.heap.size w))
  have HX0 := Lib.hid (heap_alloc_new w (insB op jt jf k))
  have HT0 := Lib.hid (ht.alloc (insB op jt jf k))
  obtain ⟨ao, cap, rfl, hF⟩ := hF
  have hlen := fromM_len f (p + 1)
  have hlen5 : f.length ≤ 4096 := hs.2.1
  have HC : Hid (∀ j, p + 1 + j < f.length → ∃ b off, ao = some ⟨b, off, none⟩ ∧ b < w.heap.size ∧ w.cell? ⟨b, off + j, none⟩ = some (.int .u32 (maskN (liveF f (p + 1 + j)) 18 : Nat))) := Lib.hid (fun j hj => by
    rcases hF with h0 | ⟨b, off, rfl, hb, hc⟩
    · have := congrArg List.length h0
      rw [hlen] at this
      simp at this
      omega
    · refine ⟨b, off, rfl, hb, ?_⟩
      have := hc j (by rw [hlen]; omega)
      rw [fromM_at] at this
      exact this)
  rw [hlen]
  clear hF hx hs hok hlen ht
  have c0 := cell_in HX0.out 0
  have c1 := cell_in HX0.out 1
  have c2 := cell_in HX0.out 2
  have c3 := cell_in HX0.out 3
  go_enter Tryd.func29, Tryd.ntmps29
  go_wp2_with fail
  refine (ends_any op jt jf k _).mono ?_
  rintro e w1 ⟨rfl, hb1⟩
  have HX1 := Lib.hid (kb hb1 HX0.out)
  have HB1 := Lib.hid (below2 HB0.out hb1)
  have HT1 := Lib.hid (HT0.out.below hb1)
  clear hb1 c0 c1 c2 c3
  have c0 := cell_in HX1.out 0
  have c1 := cell_in HX1.out 1
  have c2 := cell_in HX1.out 2
  have c3 := cell_in HX1.out 3
  cases he : (op == 6 || op == 22)
  · have hE : endsE (⟨op, jt, jf, k⟩ : X4) = false := he
    obtain ⟨hp5, hpB, hpN⟩ := HPL.out hE
    cases h5 : (op == 5)
    · have n5 : ¬ op = 5 := by simpa using h5
      have HPB := Lib.hid (hpB n5)
      have HPN := Lib.hid (hpN n5)
      have HBR' : Hid (∀ s t : Nat, isBranch op = true → jt = s → jf = t → maskN (behF f p) 18 = maskN (fun i => liveF f (p + 1 + s) i || liveF f (p + 1 + t) i) 18) := Lib.hid (fun s t hB h1 h2 => HBR.out hE n5 hB h1 h2)
      have HNX' := Lib.hid (HNX.out hE n5)
      clear hp5 hpB hpN n5 he hE
      go_wp2_with fail
      refine (branch_any op jt jf k _ HT1.out).mono ?_
      rintro e w2 ⟨rfl, hb2⟩
      have HX2 := Lib.hid (kb hb2 HX1.out)
      have HB2 := Lib.hid (below2 HB1.out hb2)
      clear hb2 c0 c1 c2 c3
      cases hB : isBranch op
      · have hlt := HPN.out hB
        have HE := Lib.hid (HNX'.out hB)
        obtain ⟨b, off, rfl, hb, hc⟩ := HC.out 0 (by omega)
        have d0 := (HB2.out.cell (p := ⟨b, _, none⟩) hb).trans hc
        have hl1 : (0 : Int) < ((f.length - (p + 1) : Nat) : Int) := by omega
        rw [Nat.add_zero] at d0
        clear hB hc
        generalize maskN (liveF f (p + 1)) 18 = M at *
        go_wp2_with fail
        go_ret
        exact ⟨by rw [HE.out]; rfl, HB2.out⟩
      · obtain ⟨s, t, rfl, rfl, hls, hlt⟩ := HPB.out hB
        have HE := Lib.hid (HBR'.out s t hB rfl rfl)
        have HO := Lib.hid (bits_or (liveF f (p + 1 + s)) (liveF f (p + 1 + t)))
        have c1 := cell_in HX2.out 1
        have c2 := cell_in HX2.out 2
        obtain ⟨b, off, rfl, hb, hc⟩ := HC.out s hls
        have d0 := (HB2.out.cell (p := ⟨b, _, none⟩) hb).trans hc
        obtain ⟨b', off', hbb, _, hc'⟩ := HC.out t hlt
        obtain ⟨rfl, rfl⟩ : b = b' ∧ off = off' := by cases hbb; exact ⟨rfl, rfl⟩
        have d1 := (HB2.out.cell (p := ⟨b, _, none⟩) hb).trans hc'
        have hl1 : (s : Int) < ((f.length - (p + 1) : Nat) : Int) := by omega
        have hl2 : (t : Int) < ((f.length - (p + 1) : Nat) : Int) := by omega
        have hor := HO.out
        clear hB hc hc' hbb
        generalize maskN (liveF f (p + 1 + s)) 18 = M1 at *
        generalize maskN (liveF f (p + 1 + t)) 18 = M2 at *
        generalize maskN (fun i => liveF f (p + 1 + s) i || liveF f (p + 1 + t) i) 18 = M3 at *
        go_wp2_with fail
        go_quiet (fail)
        go_wp2_with fail
        go_ret
        exact ⟨by rw [HE.out]; rfl, bdN HB2.out _⟩
    · have e5 : op = 5 := by simpa using h5
      obtain ⟨k', hk', hlt⟩ := hp5 e5
      obtain rfl : k = k' := by have h : ((k : Int)) = k' := hk'; omega
      have HE := Lib.hid (HJA.out hE (k := k) e5 rfl)
      obtain ⟨b, off, rfl, hb, hc⟩ := HC.out k hlt
      have d0 := (HB1.out.cell (p := ⟨b, _, none⟩) hb).trans hc
      have hl1 : (k : Int) < ((f.length - (p + 1) : Nat) : Int) := by omega
      clear hp5 hpB hpN e5 he hE hc
      generalize maskN (liveF f (p + 1 + k)) 18 = M at *
      go_wp2_with fail
      go_ret
      exact ⟨by rw [HE.out]; rfl, HB1.out⟩
  · have HE := Lib.hid (HEN.out he)
    clear he
    go_wp2_with fail
    go_ret
    exact ⟨by rw [HE.out]; rfl, HB1.out⟩
/-- The row of masks, found from behind. -/
def maskC (f : List X4) (n : Nat) : Array Value := ((List.range f.length).map fun j => Value.int .u32 ((if n ≤ j then maskN (liveF f j) 18 else 0 : Nat) : Int)).toArray
theorem maskC_size (f : List X4) (n : Nat) : (maskC f n).size = f.length := by simp [maskC]
theorem maskC_at {f : List X4} {n j : Nat} (h : j < f.length) : (maskC f n)[j]? = some (.int .u32 ((if n ≤ j then maskN (liveF f j) 18 else 0 : Nat) : Int)) := by
  simp [maskC, h]
theorem maskC_full (f : List X4) : madeCells #[.int .u32 0] f.length = maskC f f.length := by
  apply Array.toList_inj.1
  rw [toList_madeCells_one]
  unfold maskC
  apply List.ext_getElem (by simp)
  intro j h1 h2
  have h3 : j < f.length := by simpa using h1
  have h4 : ¬ f.length ≤ j := by omega
  simp [h4]
theorem maskC_set {f : List X4} {m : Nat} (hm : m < f.length) : (maskC f (m + 1)).setIfInBounds m (.int .u32 (maskN (liveF f m) 18 : Nat)) = maskC f m := by
  apply Array.ext_getElem?
  intro j
  by_cases hj : m = j
  · subst hj
    rw [Array.getElem?_setIfInBounds_self, if_pos (by rw [maskC_size]; exact hm), maskC_at hm, if_pos (Nat.le_refl _)]
  · rw [Array.getElem?_setIfInBounds_ne hj]
    by_cases hf : j < f.length
    · rw [maskC_at hf, maskC_at hf]
      by_cases h : m + 1 ≤ j
      · rw [if_pos h, if_pos (by omega)]
      · rw [if_neg h, if_neg (by omega)]
    · rw [Array.getElem?_eq_none (by rw [maskC_size]; omega), Array.getElem?_eq_none (by rw [maskC_size]; omega)]
/-- What is needed at a place, as masks. -/
theorem live_mask {f : List X4} (hs : SoundL f) (hok : ∀ x ∈ f, x.ok) {p : Nat} (hp : p < f.length) :
    bits .or .u32 (useM (f.getD p zeroX) : Nat) (bits .andNot .u32 (maskN (behF f p) 18 : Nat) (setM (f.getD p zeroX) : Nat)) = ((maskN (liveF f p) 18 : Nat) : Int) := by
  unfold useM setM
  rw [bits_not, bits_or]
  congr 1
  refine maskN_congr _ fun i _ => ?_
  rw [liveF_eq hs hok hp]
  unfold behF
  rw [getD_at hp]
theorem maskC_slice {f : List X4} {m n : Nat} {w : World} {g : Nat} {a : Addr} {c : Nat} {t : TypeId} (hm : n ≤ m) (hg : w.heap[g]? = some (.cells (maskC f n) t)) (ha : 0 < f.length - m → a = ⟨g, m, none⟩) : MAt w (.slice (some a) (f.length - m) c) (fromM f m) := by
  rw [← fromM_len f m]
  refine ⟨_, _, rfl, ?_⟩
  by_cases h0 : f.length - m = 0
  · exact .inl (List.length_eq_zero_iff.1 (by rw [fromM_len]; exact h0))
  · refine .inr ⟨g, m, by rw [ha (by omega)], lt_of_block hg, fun i hi => ?_⟩
    rw [fromM_len] at hi
    rw [cell_in hg, maskC_at (by omega), if_pos (by omega), fromM_at]
theorem slice_masks (g N m : Nat) (h : m ≤ N) : ∃ a c, (∀ W, (Instr.slice 31 (.slice (some ⟨g, 0, none⟩) N N) (some (.int .i64 m)) none none).run Tryd.prog W = .ok (.slice (some a) (N - m) c) W) ∧ (0 < N - m → a = ⟨g, m, none⟩) := by
  by_cases hc1 : m = N
  · subst hc1
    refine ⟨⟨g, 0, none⟩, 0, fun W => ?_, fun h => by omega⟩
    rw [Nat.sub_self]
    go_simp
  · refine ⟨⟨g, m, none⟩, N - m, fun W => ?_, fun _ => rfl⟩
    go_simp
    omega
theorem nat_k4 {x : X4} (h : x.ok) : ∃ k : Nat, x.k = k ∧ k < 4294967296 := ⟨x.k.toNat, by have := h.1; omega, by have := h.1; have := h.2; omega⟩
theorem keep_cell {w : World} {B b o g i : Nat} {v u : Value} (hb : b < B) (hg : B ≤ g) (h : w.cell? ⟨b, o, none⟩ = some u) : (w.setCell ⟨g, i, none⟩ v).cell? ⟨b, o, none⟩ = some u := (((Below.refl B w).setCell (p := ⟨g, i, none⟩) hg v).cell (p := ⟨b, o, none⟩) hb).trans h
theorem infoU : (Tryd.prog.info? 22).map (fun i => (i.zero, i.size, i.bytes)) = some (some (.int .u32 0), 1, 4) := by kernel_rfl
def AtEnd (f : List X4) (w : World) (e : Ending) (w' : World) : Prop := ∃ g, e = .returned (.tuple #[.slice (some ⟨g, 0, none⟩) f.length f.length, .int .i64 0]) ∧ w'.heap[g]? = some (.cells (maskC f 0) 22) ∧ Below w.heap.size w w'
theorem atEnd {f : List X4} {w w' : World} {g : Nat} (hg : w'.heap[g]? = some (.cells (maskC f 0) 22)) (hb : Below w.heap.size w w') : AtEnd f w (.returned (.tuple #[.slice (some ⟨g, 0, none⟩) f.length f.length, .int .i64 0])) w' :=
  ⟨_, rfl, hg, hb⟩
theorem mask_in {w : World} {f : List X4} {g j : Nat} {t : TypeId} (hg : w.heap[g]? = some (.cells (maskC f 0) t)) (hj : j < f.length) : w.cell? ⟨g, j, none⟩ = some (.int .u32 (maskN (liveF f j) 18 : Nat)) := by
  rw [cell_in hg, maskC_at hj, if_pos (Nat.zero_le _)]
theorem lat_bad (v : Value) (f : List X4) (w : World) (hF : FAt w v f) (hok : ∀ x ∈ f, x.ok) (hs : soundB f = false) (ht : OTab w) :
    Calls Tryd.prog 13 #[v] w fun e w' => e = .returned (.tuple #[.slice none 0 0, .int .i64 1]) ∧ Below w.heap.size w w' := by
  have HF := Lib.hid hF
  have HO := Lib.hid hok
  have HT := Lib.hid ht
  clear hF hok ht
  go_enter Tryd.func13, Tryd.ntmps13
  go_wp2_with fail
  refine (sound_any v f w HF.out HO.out HT.out).mono ?_
  rintro e w1 ⟨rfl, hb1⟩
  rw [hs]
  have HB1 := Lib.hid hb1
  clear hb1
  go_wp2_with fail
  go_ret2
  exact ⟨rfl, HB1.out⟩
set_option maxHeartbeats 8000000 in
theorem lat_any (v : Value) (f : List X4) (w : World) (hF : FAt w v f) (hok : ∀ x ∈ f, x.ok) (hs : soundB f = true) (ht : OTab w) :
    Calls Tryd.prog 13 #[v] w (AtEnd f w) := by
  have HS := Lib.hid (soundB_iff.1 hs)
  have hlen : f.length ≤ 4096 := HS.out.2.1
  have hpos : 0 < f.length := HS.out.1
  have HF := Lib.hid hF
  have HO := Lib.hid hok
  have HT := Lib.hid ht
  obtain ⟨ao, cap, rfl, hF'⟩ := hF
  rcases hF' with h0 | ⟨b, off, rfl, hb, hc⟩
  · rw [h0] at hpos; simp at hpos
  have HC := Lib.hid hc
  have hmk := fun W => run_make_row' (P := Tryd.prog) 31 22 (.int .u32 0) 4 Tryd.underlying31 infoU rfl .i64 .i64 f.length (by omega) (by omega) W
  rw [maskC_full f] at hmk
  clear hc hok ht
  go_enter Tryd.func13, Tryd.ntmps13
  go_wp2_with fail
  refine (sound_any _ f w HF.out HO.out HT.out).mono ?_
  rintro e w1 ⟨rfl, hb1⟩
  rw [hs]
  have HB1 := Lib.hid hb1
  have HG0 := Lib.hid (heap_alloc_new w1 (.cells (maskC f f.length) 22))
  have HB0 := Lib.hid (below2 hb1 (ba (.cells (maskC f f.length) 22) (Below.refl w1.heap.size w1)))
  have hg1 : w.heap.size ≤ w1.heap.size := hb1.size
  clear hb1 hs
  go_wp2_with fail
  clear hmk
  go_loopw [5] (fun i wr => ∃ n : Nat, n ≤ f.length ∧ i = .int .i64 ((n : Int) - 1) ∧ wr.heap[w1.heap.size]? = some (.cells (maskC f n) 22) ∧ Below w.heap.size w wr) (fun i _ => (intOf i + 1).toNat)
  case atStart => exact ⟨f.length, by omega, by go_num, HG0.out, HB0.out⟩
  case round =>
    clear HG0 HB0
    obtain ⟨n, hn1, rfl, hg, hbw⟩ := hrel
    have HG := Lib.hid hg
    have HB := Lib.hid hbw
    clear hg hbw
    by_cases hlt : 0 < n
    · obtain ⟨m, rfl⟩ : ∃ m, n = m + 1 := ⟨n - 1, by omega⟩
      have e1 : ((m + 1 : Nat) : Int) - 1 = m := by omega
      have hmf : m < f.length := by omega
      obtain ⟨c0, c1, c2, c3⟩ := HC.out m hmf
      have d0 := (HB.out.cell (p := ⟨b, _, none⟩) hb).trans c0
      have d1 := (HB.out.cell (p := ⟨b, _, none⟩) hb).trans c1
      have d2 := (HB.out.cell (p := ⟨b, _, none⟩) hb).trans c2
      have d3 := (HB.out.cell (p := ⟨b, _, none⟩) hb).trans c3
      have HXo := Lib.hid (HO.out _ (List.getElem_mem hmf))
      have HXE := Lib.hid (getD_at hmf)
      have HLM := Lib.hid (live_mask HS.out HO.out hmf)
      rw [e1]
      clear e1 c0 c1 c2 c3
      obtain ⟨x, hx⟩ : ∃ x, x = f[m] := ⟨_, rfl⟩
      rw [← hx] at d0 d1 d2 d3 HXo HXE
      rw [HXE.out] at HLM
      clear hx
      obtain ⟨op, jt, jf, kk⟩ := x
      obtain ⟨k, hk, hk4⟩ := nat_k4 HXo.out
      simp only at hk
      subst hk
      obtain ⟨a, c, hsl, ha⟩ := slice_masks w1.heap.size f.length (m + 1) (by omega)
      have HMA := Lib.hid (maskC_slice (c := c) (Nat.le_refl (m + 1)) HG.out ha)
      have HTW := Lib.hid (HT.out.below HB.out)
      obtain ⟨U, hU⟩ : ∃ U, U = useM ⟨op, jt, jf, k⟩ := ⟨_, rfl⟩
      obtain ⟨S, hS⟩ : ∃ S, S = setM ⟨op, jt, jf, k⟩ := ⟨_, rfl⟩
      obtain ⟨N, hN⟩ : ∃ N, N = maskN (behF f m) 18 := ⟨_, rfl⟩
      obtain ⟨L, hL⟩ : ∃ L, L = maskN (liveF f m) 18 := ⟨_, rfl⟩
      have HCU : Hid (∀ V, Below wr.heap.size wr V → Calls Tryd.prog 10 #[insV op jt jf k] V fun e w' => e = .returned (.int .u32 (U : Int)) ∧ Below wr.heap.size wr w') := Lib.hid (fun V hV => (luses_any op jt jf k V (HTW.out.below hV)).mono fun e w' h => ⟨by rw [hU]; exact h.1, below2 hV h.2⟩)
      have HCS : Hid (∀ V, Below wr.heap.size wr V → Calls Tryd.prog 11 #[insV op jt jf k] V fun e w' => e = .returned (.int .u32 (S : Int)) ∧ Below wr.heap.size wr w') := Lib.hid (fun V hV => (lsets_any op jt jf k V (HTW.out.below hV)).mono fun e w' h => ⟨by rw [hS]; exact h.1, below2 hV h.2⟩)
      have HCB : Hid (∀ V, Below wr.heap.size wr V → Calls Tryd.prog 29 #[insV op jt jf k, .slice (some a) (f.length - (m + 1)) c] V fun e w' => e = .returned (.int .u32 (N : Int)) ∧ Below wr.heap.size wr w') := Lib.hid (fun V hV => (lbehind_any f m op jt jf k _ V HS.out HO.out hmf HXE.out (HMA.out.below hV) (HTW.out.below hV)).mono fun e w' h => ⟨by rw [hN]; exact h.1, below2 hV h.2⟩)
      have hor := HLM.out
      rw [← hU, ← hS, ← hN, ← hL] at hor
      obtain ⟨z, hz⟩ : ∃ z, bits .andNot .u32 (N : Int) (S : Int) = z := ⟨_, rfl⟩
      rw [hz] at hor
      have HSET := Lib.hid (maskC_set (f := f) hmf)
      rw [← hL] at HSET
      have g0 := (cell_in HG.out m).trans (maskC_at (f := f) (n := m + 1) hmf)
      rw [if_neg (by omega)] at g0
      have gf := free_in HG.out m
      have hbr : b < wr.heap.size := Nat.lt_of_lt_of_le hb HB.out.size
      have hgr : w1.heap.size < wr.heap.size := lt_of_block HG.out
      clear hU hS hN hL HLM HMA ha
      have l0 : (m : Int) < (f.length : Int) := by omega
      have l1 : (0 : Int) ≤ (m : Int) := by omega
      have t1 : (m : Int).toNat = m := by omega
      have s1 : IntKind.i64.wrap ((m : Int) + 1) = (m : Int) + 1 := by rw [IntKind.wrap_i64]; omega
      have e2 : ((m + 1 : Nat) : Int) = (m : Int) + 1 := by omega
      rw [e2] at hsl
      clear e2
      go_wp2_with fail
      go_region_held3 (fun V => V.cell? ⟨b, off + m * 4, none⟩ = some (.int .i64 op) ∧ V.cell? ⟨b, off + m * 4 + 1, none⟩ = some (.int .i64 jt) ∧ V.cell? ⟨b, off + m * 4 + 2, none⟩ = some (.int .i64 jf) ∧ V.cell? ⟨b, off + m * 4 + 3, none⟩ = some (.int .u32 k)) (first | exact ⟨d0, d1, d2, d3⟩ | exact ⟨a0, a1, a2, a3⟩ | exact ⟨keep_cell hb hg1 a0, keep_cell hb hg1 a1, keep_cell hb hg1 a2, keep_cell hb hg1 a3⟩ | go_keep)
        (first
          | (go_at_call 10; refine (HCU.out _ ?_).mono ?_; (first | exact hb9 | (have hB := Below.refl wr.heap.size wr; go_grown)); rintro e w9 ⟨rfl, hb9⟩; have a0 := (hb9.cell (p := ⟨b, _, none⟩) hbr).trans d0; have a1 := (hb9.cell (p := ⟨b, _, none⟩) hbr).trans d1; have a2 := (hb9.cell (p := ⟨b, _, none⟩) hbr).trans d2; have a3 := (hb9.cell (p := ⟨b, _, none⟩) hbr).trans d3; have b0 := (hb9.cell (p := ⟨w1.heap.size, _, none⟩) hgr).trans g0; have bf := (hb9.frozen (p := ⟨w1.heap.size, m, none⟩) hgr).trans gf)
          | (go_at_call 11; refine (HCS.out _ ?_).mono ?_; (first | exact hb9 | (have hB := Below.refl wr.heap.size wr; go_grown)); rintro e w9 ⟨rfl, hb9⟩; have a0 := (hb9.cell (p := ⟨b, _, none⟩) hbr).trans d0; have a1 := (hb9.cell (p := ⟨b, _, none⟩) hbr).trans d1; have a2 := (hb9.cell (p := ⟨b, _, none⟩) hbr).trans d2; have a3 := (hb9.cell (p := ⟨b, _, none⟩) hbr).trans d3; have b0 := (hb9.cell (p := ⟨w1.heap.size, _, none⟩) hgr).trans g0; have bf := (hb9.frozen (p := ⟨w1.heap.size, m, none⟩) hgr).trans gf)
          | (go_at_call 29; refine (HCB.out _ ?_).mono ?_; (first | exact hb9 | (have hB := Below.refl wr.heap.size wr; go_grown)); rintro e w9 ⟨rfl, hb9⟩; have a0 := (hb9.cell (p := ⟨b, _, none⟩) hbr).trans d0; have a1 := (hb9.cell (p := ⟨b, _, none⟩) hbr).trans d1; have a2 := (hb9.cell (p := ⟨b, _, none⟩) hbr).trans d2; have a3 := (hb9.cell (p := ⟨b, _, none⟩) hbr).trans d3; have b0 := (hb9.cell (p := ⟨w1.heap.size, _, none⟩) hgr).trans g0; have bf := (hb9.frozen (p := ⟨w1.heap.size, m, none⟩) hgr).trans gf))
      have hg9 := (hb9.block _ hgr).trans HG.out
      have HP := rowPut_set hg9 (maskC f m)
      rw [← HSET.out, ← setCell_eq_setRow w9 _ _ _ _ _ _ hg9] at HP
      have HP9 := Lib.hid HP
      have HB9 := Lib.hid (HP.below (HB.out.trans (hb9.mono HB.out.size)) hg1)
      rw [HSET.out] at HP9
      clear a0 a1 a2 a3 b0 bf d0 d1 d2 d3 g0 gf hb9 hg9 HP hsl hz hor l0 l1 t1 s1
      generalize w9.setCell ⟨w1.heap.size, m, none⟩ (.int .u32 (L : Int)) = W9 at *
      go_wp2_with fail
      go_roundw
      case rel => exact ⟨m, by omega, by go_num, HP9.out.row, HB9.out⟩
      case measure => simp [intOf]
    · obtain rfl : n = 0 := by omega
      have HE := Lib.hid (atEnd HG.out HB.out)
      go_wp2_with fail
      go_ret2
      exact HE.out
theorem lbeh_bad (v : Value) (f : List X4) (q : Int) (w : World) (hF : FAt w v f) (hok : ∀ x ∈ f, x.ok) (ht : OTab w) (h : soundB f = false ∨ q < 0 ∨ (f.length : Int) ≤ q) :
    Calls Tryd.prog 14 #[v, .int .i64 q] w fun e w' => e = .returned (.tuple #[.int .u32 0, .int .i64 1]) ∧ Below w.heap.size w w' := by
  have HF := Lib.hid hF
  have HO := Lib.hid hok
  have HT := Lib.hid ht
  obtain ⟨ao, cap, rfl⟩ := hF.shape
  clear hF hok ht
  cases hs : soundB f
  · clear h
    go_enter Tryd.func14, Tryd.ntmps14
    go_wp2_with fail
    refine (lat_bad _ f w HF.out HO.out hs HT.out).mono ?_
    rintro e w1 ⟨rfl, hb1⟩
    have HB1 := Lib.hid hb1
    clear hb1 hs
    go_wp2_with fail
    go_ret2
    exact ⟨rfl, HB1.out⟩
  · have h : q < 0 ∨ (f.length : Int) ≤ q := by rw [hs] at h; simpa using h
    have HS := Lib.hid hs
    clear hs
    rcases h with h | h
    all_goals
      have h2 := h
      go_enter Tryd.func14, Tryd.ntmps14
      go_wp2_with fail
      refine (lat_any _ f w HF.out HO.out HS.out HT.out).mono ?_
      rintro e w1 ⟨g, rfl, hu, hb1⟩
      have HB1 := Lib.hid hb1
      clear hb1 hu
      go_wp2_with fail
      all_goals first | (exfalso; omega) | (go_ret2; exact ⟨rfl, HB1.out⟩)
set_option maxHeartbeats 4000000 in
theorem lbeh_any (v : Value) (f : List X4) (p : Nat) (w : World) (hF : FAt w v f) (hok : ∀ x ∈ f, x.ok) (ht : OTab w) (hs : soundB f = true) (hp : p < f.length) :
    Calls Tryd.prog 14 #[v, .int .i64 p] w fun e w' => e = .returned (.tuple #[.int .u32 (maskN (behF f p) 18 : Nat), .int .i64 0]) ∧ Below w.heap.size w w' := by
  have HF := Lib.hid hF
  have HO := Lib.hid hok
  have HT := Lib.hid ht
  have HS := Lib.hid hs
  have HSd := Lib.hid (soundB_iff.1 hs)
  have hlen : f.length ≤ 4096 := HSd.out.2.1
  obtain ⟨ao, cap, rfl, hF'⟩ := hF
  rcases hF' with h0 | ⟨b, off, rfl, hb, hc⟩
  · rw [h0] at hp; simp at hp
  obtain ⟨c0, c1, c2, c3⟩ := hc p hp
  have HC := Lib.hid (And.intro c0 (And.intro c1 (And.intro c2 c3)))
  have HXo := Lib.hid (hok _ (List.getElem_mem hp))
  have HXE := Lib.hid (getD_at hp)
  clear hok ht hs hc c0 c1 c2 c3
  obtain ⟨x, hx⟩ : ∃ x, x = f[p] := ⟨_, rfl⟩
  rw [← hx] at HC HXo HXE
  clear hx
  obtain ⟨op, jt, jf, kk⟩ := x
  obtain ⟨k, hk, hk4⟩ := nat_k4 HXo.out
  simp only at hk
  subst hk
  have hp1 : (p : Int) < (f.length : Int) := by omega
  go_enter Tryd.func14, Tryd.ntmps14
  go_wp2_with fail
  refine (lat_any _ f w HF.out HO.out HS.out HT.out).mono ?_
  rintro e w1 ⟨g, rfl, hg, hb1⟩
  have HB1 := Lib.hid hb1
  have HT1 := Lib.hid (HT.out.below hb1)
  have d0 := (hb1.cell (p := ⟨b, _, none⟩) hb).trans HC.out.1
  have d1 := (hb1.cell (p := ⟨b, _, none⟩) hb).trans HC.out.2.1
  have d2 := (hb1.cell (p := ⟨b, _, none⟩) hb).trans HC.out.2.2.1
  have d3 := (hb1.cell (p := ⟨b, _, none⟩) hb).trans HC.out.2.2.2
  obtain ⟨a, c, hsl, ha⟩ := slice_masks g f.length (p + 1) (by omega)
  have HMA := Lib.hid (maskC_slice (c := c) (show 0 ≤ p + 1 by omega) hg ha)
  obtain ⟨N, hN⟩ : ∃ N, N = maskN (behF f p) 18 := ⟨_, rfl⟩
  have HCB : Hid (∀ V, Below w1.heap.size w1 V → Calls Tryd.prog 29 #[insV op jt jf k, .slice (some a) (f.length - (p + 1)) c] V fun e w' => e = .returned (.int .u32 (N : Int)) ∧ Below w1.heap.size w1 w') := Lib.hid (fun V hV => (lbehind_any f p op jt jf k _ V HSd.out HO.out hp HXE.out (HMA.out.below hV) (HT1.out.below hV)).mono fun e w' h => ⟨by rw [hN]; exact h.1, below2 hV h.2⟩)
  have HN := Lib.hid hN
  have l1 : (0 : Int) ≤ (p : Int) := by omega
  have t1 : (p : Int).toNat = p := by omega
  have e2 : ((p + 1 : Nat) : Int) = (p : Int) + 1 := by omega
  rw [e2] at hsl
  clear e2 hb1 hg hN ha
  go_wp2_with fail
  have s1 : IntKind.i64.wrap ((p : Int) + 1) = (p : Int) + 1 := by rw [IntKind.wrap_i64]; omega
  go_region_held3 (fun V => V.cell? ⟨b, off + p * 4, none⟩ = some (.int .i64 op) ∧ V.cell? ⟨b, off + p * 4 + 1, none⟩ = some (.int .i64 jt) ∧ V.cell? ⟨b, off + p * 4 + 2, none⟩ = some (.int .i64 jf) ∧ V.cell? ⟨b, off + p * 4 + 3, none⟩ = some (.int .u32 k)) (first | exact ⟨d0, d1, d2, d3⟩ | exact ⟨a0, a1, a2, a3⟩ | go_keep)
    (first
      | (go_at_call 29; refine (HCB.out _ ?_).mono ?_; (have hB := Below.refl w1.heap.size w1; go_grown); rintro e w9 ⟨rfl, hb9⟩; have hbr := Nat.lt_of_lt_of_le hb HB1.out.size; have a0 := (hb9.cell (p := ⟨b, _, none⟩) hbr).trans d0; have a1 := (hb9.cell (p := ⟨b, _, none⟩) hbr).trans d1; have a2 := (hb9.cell (p := ⟨b, _, none⟩) hbr).trans d2; have a3 := (hb9.cell (p := ⟨b, _, none⟩) hbr).trans d3))
  have HB9 := Lib.hid (below2 HB1.out hb9)
  clear a0 a1 a2 a3 d0 d1 d2 d3 hb9 hsl l1 t1 s1
  go_wp2_with fail
  go_ret2
  exact ⟨by rw [← HN.out]; rfl, HB9.out⟩
end Go.Proofs.YtmbegncnbjafdaaDoor
