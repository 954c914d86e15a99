/-
  The document's Words and Print (package hurdleref08).
-/
import Derived.Test.YtlhpdjafhjfcoaaDoorQRef
import Derived.Deep.RegionHeld3
namespace Go.Proofs.YtlhpdjafhjfcoaaDoor
open Go.ChangeShapes Go.WideShapes Go.ChangeAt Go.RowKit
set_option maxRecDepth 20000

/-! ### A region whose order is drawn, taken by hand -/
section
variable {ops : Array Oper} {Q : Exit → Act → World → Prop} {md : Region.Mode} {S : World → Prop}
/-- An operation is taken first; its slot is handed over. -/
theorem held_take {i : Nat} {oi : Oper} {v : Value} (q : Option Tmp) {fuel : Nat} {listed : Array Bool} {a : Act} {w : World} (hi : ops[i]? = some oi) (hq : oi.dst = q)
    (hs : Region.noSelect ops = true) (hf : Region.free md ops listed i = true) (hr : (Region.ready md ops listed).contains i = true)
    (hQ : ∀ c a w, Q (.panic c) (a.put oi.dst v) w → Q (.panic c) a w) (hy : YieldsIf Tryd.prog ops S oi v a) (hS : S w)
    (h : wpAnyH Tryd.prog md ops Q S fuel (listed.setIfInBounds i true) (a.put q v) w) : wpAnyH Tryd.prog md ops Q S (fuel + 1) listed a w :=
  wpAnyH_take hi hs hf hr hQ hy hS (by rw [hq]; exact h)
/-- What holds of the worlds behind may be said more sharply. -/
theorem held_weak {S' : World → Prop} (hS : ∀ V, S' V → S V) : ∀ (fuel : Nat) (listed : Array Bool) (a : Act) (w : World), wpAnyH Tryd.prog md ops Q S' fuel listed a w → wpAnyH Tryd.prog md ops Q S fuel listed a w
  | 0, _, _, _, h => h
  | fuel + 1, _, _, _, h => ⟨h.1, fun i hi => wpOp_mono (fun _ _ h' => ⟨hS _ h'.1, held_weak hS fuel _ _ _ h'.2⟩) (h.2 i hi)⟩
variable {o : Oper} {a : Act}
theorem add_str {x y : ByteArray} (h : x.size + y.size ≤ 1000000) (V : World) : (binOp .add 9 (.string x) (.string y)).run Tryd.prog V = .ok (.string (x ++ y)) V := by
  have hn : ¬ 9223372036854775807 < x.size + y.size := by omega
  go_simp
theorem yi_add {p q : Operand} {x y : ByteArray} (hw : Region.wanted o (yielded ops a.tmps) = true) (ho : o.op = .binOp .add 9 p q 9) (hx : a.eval p = .string x) (hy : a.eval q = .string y) (h : x.size + y.size ≤ 1000000) : YieldsIf Tryd.prog ops S o (.string (x ++ y)) a :=
  .inl ⟨hw, fun V _ => by
    have hn : ¬ 9223372036854775807 < x.size + y.size := by omega
    unfold execOp
    simp only [ho, hx, hy]
    go_simp⟩
end
/-- The words of the comparisons, as they lie in a row. -/
def wordsC : Array Value := #[.string ⟨#[101, 113]⟩, .string ⟨#[110, 101]⟩, .string ⟨#[108, 116]⟩, .string ⟨#[108, 101]⟩, .string ⟨#[103, 116]⟩, .string ⟨#[103, 101]⟩]
def digitsC : Array Value := #[.string ⟨#[48]⟩, .string ⟨#[49]⟩, .string ⟨#[50]⟩, .string ⟨#[51]⟩, .string ⟨#[52]⟩, .string ⟨#[53]⟩]
def wordT (k : Int) : ByteArray := ⟨(cmpW k).toArray⟩
def digitT (k : Int) : ByteArray := ⟨#[UInt8.ofNat (48 + k.toNat)]⟩
theorem wordsC_at {k : Nat} (h : k < 6) : wordsC[k]? = some (.string (wordT k)) := by
  rcases six (k := (k : Int)) (by omega) (by omega) with e | e | e | e | e | e
  · obtain rfl : k = 0 := by omega
    rfl
  · obtain rfl : k = 1 := by omega
    rfl
  · obtain rfl : k = 2 := by omega
    rfl
  · obtain rfl : k = 3 := by omega
    rfl
  · obtain rfl : k = 4 := by omega
    rfl
  · obtain rfl : k = 5 := by omega
    rfl
theorem digitsC_at {k : Nat} (h : k < 6) : digitsC[k]? = some (.string (digitT k)) := by
  rcases six (k := (k : Int)) (by omega) (by omega) with e | e | e | e | e | e
  · obtain rfl : k = 0 := by omega
    rfl
  · obtain rfl : k = 1 := by omega
    rfl
  · obtain rfl : k = 2 := by omega
    rfl
  · obtain rfl : k = 3 := by omega
    rfl
  · obtain rfl : k = 4 := by omega
    rfl
  · obtain rfl : k = 5 := by omega
    rfl
theorem wordT_size {k : Int} (h0 : 0 ≤ k) (h5 : k ≤ 5) : (wordT k).size = 2 := by
  rcases six h0 h5 with rfl | rfl | rfl | rfl | rfl | rfl <;> rfl
theorem wordsC_lit : (#[.string ⟨#[101, 113]⟩, .string ⟨#[110, 101]⟩, .string ⟨#[108, 116]⟩, .string ⟨#[108, 101]⟩, .string ⟨#[103, 116]⟩, .string ⟨#[103, 101]⟩] : Array Value) = wordsC := rfl
theorem digitsC_lit : (#[.string ⟨#[48]⟩, .string ⟨#[49]⟩, .string ⟨#[50]⟩, .string ⟨#[51]⟩, .string ⟨#[52]⟩, .string ⟨#[53]⟩] : Array Value) = digitsC := rfl
theorem rwords_any (w : World) :
    Calls Tryd.prog 30 #[] w fun e w' => e = .returned (.slice (some ⟨w.heap.size, 0, none⟩) 6 6) ∧ w' = w.alloc (.cells wordsC 9) := by
  have hl := wordsC_lit
  go_enter Tryd.func30, Tryd.ntmps30
  go_wp2_with fail
  go_ret
  exact ⟨rfl, rfl⟩
/-- A condition's text. -/
def textT (c : Cd) : ByteArray := ⟨(textQ c).toArray⟩
theorem txt_le18 {n : Nat} (h : n < 18446744073709551616) : (Wd.txt n).size ≤ 18 := by
  have := Wd.hex_len16 n h
  show (48 :: 120 :: Wd.hex n).length ≤ 18
  simp
  omega
theorem textT_eq (c : Cd) : ((((((((⟨#[97]⟩ : ByteArray) ++ digitT c.arg) ++ ⟨#[32]⟩) ++ Wd.txt c.mask) ++ ⟨#[32]⟩) ++ wordT c.cmp) ++ ⟨#[32]⟩) ++ Wd.txt c.value) = textT c := by
  apply ByteArray.ext
  apply Array.ext'
  unfold textT textQ digitT Wd.txt wordT argW numT
  simp
set_option maxHeartbeats 8000000 in
theorem rprint8_any (c : Cd) (w : World) (hc : c.ok) (hr : c.right = true) :
    Calls Tryd.prog 17 #[c.val] w fun e w' => e = .returned (.string (textT c)) ∧ Below w.heap.size w w' := by
  obtain ⟨a0, a5, k0, k5⟩ := (c.right_iff).1 hr
  have HE := Lib.hid (textT_eq c)
  have hz1 := txt_le18 hc.1
  have hz2 := txt_le18 hc.2
  have hz3 := wordT_size k0 k5
  have hz4 : (digitT c.arg).size = 1 := rfl
  obtain ⟨n, hn⟩ : ∃ n : Nat, c.arg = n := ⟨c.arg.toNat, by omega⟩
  obtain ⟨m, hm⟩ : ∃ m : Nat, c.cmp = m := ⟨c.cmp.toNat, by omega⟩
  have hn6 : n < 6 := by omega
  have hm6 : m < 6 := by omega
  have HDI := Lib.hid (digitsC_at hn6)
  have HWO := Lib.hid (wordsC_at hm6)
  rw [← hn] at HDI
  rw [← hm] at HWO
  have HTM := Lib.hid (refText_any c.mask hc.1)
  have HTV := Lib.hid (refText_any c.value hc.2)
  obtain ⟨D, hD⟩ : ∃ D, D = digitT c.arg := ⟨_, rfl⟩
  obtain ⟨K, hK⟩ : ∃ K, K = wordT c.cmp := ⟨_, rfl⟩
  obtain ⟨T, hT⟩ : ∃ T, T = Wd.txt c.mask := ⟨_, rfl⟩
  obtain ⟨V, hV⟩ : ∃ V, V = Wd.txt c.value := ⟨_, rfl⟩
  rw [← hD, ← hK, ← hT, ← hV] at HE
  rw [← hD] at HDI hz4
  rw [← hK] at HWO hz3
  rw [← hT] at HTM hz1
  rw [← hV] at HTV hz2
  have HX0 := Lib.hid (heap_alloc_new w (cdB c))
  have HB0 := Lib.hid (ba (cdB c) (Below.refl w.heap.size w))
  obtain ⟨W, hW⟩ : ∃ W, W = w.alloc (cdB c) := ⟨_, rfl⟩
  rw [← hW] at HX0 HB0
  have HBOX : Hid (∀ V, Below W.heap.size W V → V.cell? ⟨w.heap.size, 0, none⟩ = some (.int .i64 c.arg) ∧ V.cell? ⟨w.heap.size, 1, none⟩ = some (.int .i64 c.cmp) ∧ V.cell? ⟨w.heap.size, 2, none⟩ = some (.int .u64 (c.mask : Nat)) ∧ V.cell? ⟨w.heap.size, 3, none⟩ = some (.int .u64 (c.value : Nat))) := Lib.hid (fun V hV => cdX (kb hV HX0.out))
  rw [hn, hm] at HBOX
  clear hn hm
  clear hD hK hT hV a0 a5 k0 k5 hr
  go_enter Tryd.func17, Tryd.ntmps17
  go_upto_region 1 with fail
  rw [← hW]
  clear hW
  have l0 : (0 : Int) ≤ (n : Int) := by omega
  have l1 : (n : Int) < 6 := by omega
  have t1 : (n : Int).toNat = n := by omega
  have l2 : (0 : Int) ≤ (m : Int) := by omega
  have l3 : (m : Int) < 6 := by omega
  have t2 : (m : Int).toNat = m := by omega
  have hz5 : (⟨#[97]⟩ : ByteArray).size = 1 := rfl
  have hz6 : (⟨#[32]⟩ : ByteArray).size = 1 := rfl
  have hdl := digitsC_lit
  have hwl := wordsC_lit
  refine wp_region_held_drew (S := fun V => Below W.heap.size W V) (by kernel_rfl) ?_ (fun hHeld => ?_)
  · exact bdN (Below.refl _ _) 1
  obtain ⟨u0, hu0⟩ : ∃ v, v = W.drew := ⟨_, rfl⟩
  rw [← hu0] at hHeld ⊢
  clear hu0
  have HCu0 := Lib.hid hHeld
  refine held_weak (S' := fun V => Below u0.heap.size u0 V) (fun V hV => below2 hHeld hV) _ _ _ _ ?_
  replace hHeld := Below.refl u0.heap.size u0
  refine held_take (i := 1) (v := .pointer (some ⟨w.heap.size, 0, none⟩)) (some 4) rfl rfl (by kernel_rfl) (by kernel_rfl) (by kernel_rfl) (fun _ _ _ h => h) (.inl ⟨by rfl, fun V _ => by go_simp⟩) hHeld ?_
  simp only [Act.put, List.setIfInBounds_toArray, List.set_cons_zero, List.set_cons_succ]
  refine held_take (i := 2) (v := .int .i64 (n : Int)) (some 5) rfl rfl (by kernel_rfl) (by kernel_rfl) (by kernel_rfl) (fun _ _ _ h => h) (.inl ⟨by rfl, fun V hV => by have h := (HBOX.out V (below2 HCu0.out hV)).1; go_simp⟩) hHeld ?_
  simp only [Act.put, List.setIfInBounds_toArray, List.set_cons_zero, List.set_cons_succ]
  refine held_take (i := 7) (v := .pointer (some ⟨w.heap.size, 2, none⟩)) (some 10) rfl rfl (by kernel_rfl) (by kernel_rfl) (by kernel_rfl) (fun _ _ _ h => h) (.inl ⟨by rfl, fun V _ => by go_simp⟩) hHeld ?_
  simp only [Act.put, List.setIfInBounds_toArray, List.set_cons_zero, List.set_cons_succ]
  refine held_take (i := 8) (v := .int .u64 (c.mask : Nat)) (some 11) rfl rfl (by kernel_rfl) (by kernel_rfl) (by kernel_rfl) (fun _ _ _ h => h) (.inl ⟨by rfl, fun V hV => by have h := (HBOX.out V (below2 HCu0.out hV)).2.2.1; go_simp⟩) hHeld ?_
  simp only [Act.put, List.setIfInBounds_toArray, List.set_cons_zero, List.set_cons_succ]
  refine held_take (i := 13) (v := .pointer (some ⟨w.heap.size, 1, none⟩)) (some 16) rfl rfl (by kernel_rfl) (by kernel_rfl) (by kernel_rfl) (fun _ _ _ h => h) (.inl ⟨by rfl, fun V _ => by go_simp⟩) hHeld ?_
  simp only [Act.put, List.setIfInBounds_toArray, List.set_cons_zero, List.set_cons_succ]
  refine held_take (i := 14) (v := .int .i64 (m : Int)) (some 17) rfl rfl (by kernel_rfl) (by kernel_rfl) (by kernel_rfl) (fun _ _ _ h => h) (.inl ⟨by rfl, fun V hV => by have h := (HBOX.out V (below2 HCu0.out hV)).2.1; go_simp⟩) hHeld ?_
  simp only [Act.put, List.setIfInBounds_toArray, List.set_cons_zero, List.set_cons_succ]
  refine held_take (i := 19) (v := .pointer (some ⟨w.heap.size, 3, none⟩)) (some 22) rfl rfl (by kernel_rfl) (by kernel_rfl) (by kernel_rfl) (fun _ _ _ h => h) (.inl ⟨by rfl, fun V _ => by go_simp⟩) hHeld ?_
  simp only [Act.put, List.setIfInBounds_toArray, List.set_cons_zero, List.set_cons_succ]
  refine held_take (i := 20) (v := .int .u64 (c.value : Nat)) (some 23) rfl rfl (by kernel_rfl) (by kernel_rfl) (by kernel_rfl) (fun _ _ _ h => h) (.inl ⟨by rfl, fun V hV => by have h := (HBOX.out V (below2 HCu0.out hV)).2.2.2; go_simp⟩) hHeld ?_
  simp only [Act.put, List.setIfInBounds_toArray, List.set_cons_zero, List.set_cons_succ]
  refine wpAnyH_ready (rs := [0, 9]) (by kernel_rfl) (by simp) ?_
  refine AllReadyH.cons rfl (fun K hK => ?_) (AllReadyH.cons rfl (fun K hK => ?_) AllReadyH.nil)
  · go_simp
    refine hK.out _ _ (ba (.cells digitsC 9) (Below.refl u0.heap.size u0)) (fun hHeld => ?_)
    clear hK K
    obtain ⟨u1, hu1⟩ : ∃ v, v = u0.alloc (.cells digitsC 9) := ⟨_, rfl⟩
    have hbn : u1.heap[u0.heap.size]? = some (.cells digitsC 9) := by rw [hu1]; exact heap_alloc_new _ _
    rw [← hu1] at hHeld ⊢
    clear hu1
    have HRBu1 := Lib.hid hbn
    clear hbn
    have HCu1 := Lib.hid (below2 HCu0.out hHeld)
    refine held_weak (S' := fun V => Below u1.heap.size u1 V) (fun V hV => below2 hHeld hV) _ _ _ _ ?_
    replace hHeld := Below.refl u1.heap.size u1
    refine held_take (i := 3) (v := .pointer (some ⟨u0.heap.size, n, none⟩)) (some 6) rfl rfl (by kernel_rfl) (by kernel_rfl) (by kernel_rfl) (fun _ _ _ h => h) (.inl ⟨by rfl, fun V _ => by go_simp⟩) hHeld ?_
    simp only [Act.put, List.setIfInBounds_toArray, List.set_cons_zero, List.set_cons_succ]
    refine held_take (i := 4) (v := .string D) (some 7) rfl rfl (by kernel_rfl) (by kernel_rfl) (by kernel_rfl) (fun _ _ _ h => h) (.inl ⟨by rfl, fun V hV => by have h := (cell_in (kb hV HRBu1.out) n).trans HDI.out; go_simp⟩) hHeld ?_
    simp only [Act.put, List.setIfInBounds_toArray, List.set_cons_zero, List.set_cons_succ]
    refine held_take (i := 5) (some 8) rfl rfl (by kernel_rfl) (by kernel_rfl) (by kernel_rfl) (fun _ _ _ h => h) (yi_add (by rfl) (by rfl) (by rfl) (by rfl) (by (try simp only [ByteArray.size_append]); omega)) hHeld ?_
    simp only [Act.put, List.setIfInBounds_toArray, List.set_cons_zero, List.set_cons_succ]
    refine held_take (i := 6) (some 9) rfl rfl (by kernel_rfl) (by kernel_rfl) (by kernel_rfl) (fun _ _ _ h => h) (yi_add (by rfl) (by rfl) (by rfl) (by rfl) (by (try simp only [ByteArray.size_append]); omega)) hHeld ?_
    simp only [Act.put, List.setIfInBounds_toArray, List.set_cons_zero, List.set_cons_succ]
    refine wpAnyH_ready (rs := [9]) (by kernel_rfl) (by simp) ?_
    refine AllReadyH.cons rfl (fun K hK => ?_) AllReadyH.nil
    go_simp
    refine (HTM.out _).mono ?_
    rintro e u2 ⟨rfl, hbu2⟩
    go_simp
    refine hK.out _ _ hbu2 (fun hHeld => ?_)
    clear hK K
    have HRBu2 := Lib.hid (kb hHeld HRBu1.out)
    have HCu2 := Lib.hid (below2 HCu1.out hHeld)
    refine held_weak (S' := fun V => Below u2.heap.size u2 V) (fun V hV => below2 hHeld hV) _ _ _ _ ?_
    replace hHeld := Below.refl u2.heap.size u2
    refine held_take (i := 10) (some 13) rfl rfl (by kernel_rfl) (by kernel_rfl) (by kernel_rfl) (fun _ _ _ h => h) (yi_add (by rfl) (by rfl) (by rfl) (by rfl) (by (try simp only [ByteArray.size_append]); omega)) hHeld ?_
    simp only [Act.put, List.setIfInBounds_toArray, List.set_cons_zero, List.set_cons_succ]
    refine held_take (i := 11) (some 14) rfl rfl (by kernel_rfl) (by kernel_rfl) (by kernel_rfl) (fun _ _ _ h => h) (yi_add (by rfl) (by rfl) (by rfl) (by rfl) (by (try simp only [ByteArray.size_append]); omega)) hHeld ?_
    simp only [Act.put, List.setIfInBounds_toArray, List.set_cons_zero, List.set_cons_succ]
    refine wpAnyH_ready (rs := [12]) (by kernel_rfl) (by simp) ?_
    refine AllReadyH.cons rfl (fun K hK => ?_) AllReadyH.nil
    go_simp
    refine (rwords_any _).mono ?_
    rintro e w' ⟨rfl, rfl⟩
    go_simp
    refine hK.out _ _ (ba (.cells wordsC 9) (Below.refl u2.heap.size u2)) (fun hHeld => ?_)
    clear hK K
    obtain ⟨u3, hu3⟩ : ∃ v, v = u2.alloc (.cells wordsC 9) := ⟨_, rfl⟩
    have hbn : u3.heap[u2.heap.size]? = some (.cells wordsC 9) := by rw [hu3]; exact heap_alloc_new _ _
    rw [← hu3] at hHeld ⊢
    clear hu3
    have HRBu3 := Lib.hid (kb hHeld HRBu2.out)
    have HRWu3 := Lib.hid hbn
    clear hbn
    have HCu3 := Lib.hid (below2 HCu2.out hHeld)
    refine held_weak (S' := fun V => Below u3.heap.size u3 V) (fun V hV => below2 hHeld hV) _ _ _ _ ?_
    replace hHeld := Below.refl u3.heap.size u3
    refine held_take (i := 15) (v := .pointer (some ⟨u2.heap.size, m, none⟩)) (some 18) rfl rfl (by kernel_rfl) (by kernel_rfl) (by kernel_rfl) (fun _ _ _ h => h) (.inl ⟨by rfl, fun V _ => by go_simp⟩) hHeld ?_
    simp only [Act.put, List.setIfInBounds_toArray, List.set_cons_zero, List.set_cons_succ]
    refine held_take (i := 16) (v := .string K) (some 19) rfl rfl (by kernel_rfl) (by kernel_rfl) (by kernel_rfl) (fun _ _ _ h => h) (.inl ⟨by rfl, fun V hV => by have h := (cell_in (kb hV HRWu3.out) m).trans HWO.out; go_simp⟩) hHeld ?_
    simp only [Act.put, List.setIfInBounds_toArray, List.set_cons_zero, List.set_cons_succ]
    refine held_take (i := 17) (some 20) rfl rfl (by kernel_rfl) (by kernel_rfl) (by kernel_rfl) (fun _ _ _ h => h) (yi_add (by rfl) (by rfl) (by rfl) (by rfl) (by (try simp only [ByteArray.size_append]); omega)) hHeld ?_
    simp only [Act.put, List.setIfInBounds_toArray, List.set_cons_zero, List.set_cons_succ]
    refine held_take (i := 18) (some 21) rfl rfl (by kernel_rfl) (by kernel_rfl) (by kernel_rfl) (fun _ _ _ h => h) (yi_add (by rfl) (by rfl) (by rfl) (by rfl) (by (try simp only [ByteArray.size_append]); omega)) hHeld ?_
    simp only [Act.put, List.setIfInBounds_toArray, List.set_cons_zero, List.set_cons_succ]
    refine wpAnyH_ready (rs := [21]) (by kernel_rfl) (by simp) ?_
    refine AllReadyH.cons rfl (fun K hK => ?_) AllReadyH.nil
    go_simp
    refine (HTV.out _).mono ?_
    rintro e u4 ⟨rfl, hbu4⟩
    go_simp
    refine hK.out _ _ hbu4 (fun hHeld => ?_)
    clear hK K
    have HRBu4 := Lib.hid (kb hHeld HRBu3.out)
    have HRWu4 := Lib.hid (kb hHeld HRWu3.out)
    have HCu4 := Lib.hid (below2 HCu3.out hHeld)
    refine held_weak (S' := fun V => Below u4.heap.size u4 V) (fun V hV => below2 hHeld hV) _ _ _ _ ?_
    replace hHeld := Below.refl u4.heap.size u4
    refine held_take (i := 22) (some 25) rfl rfl (by kernel_rfl) (by kernel_rfl) (by kernel_rfl) (fun _ _ _ h => h) (yi_add (by rfl) (by rfl) (by rfl) (by rfl) (by (try simp only [ByteArray.size_append]); omega)) hHeld ?_
    simp only [Act.put, List.setIfInBounds_toArray, List.set_cons_zero, List.set_cons_succ]
    refine held_take (i := 23) (v := .string (((((((⟨#[97]⟩ ++ D) ++ ⟨#[32]⟩) ++ T) ++ ⟨#[32]⟩) ++ K) ++ ⟨#[32]⟩) ++ V)) (some 2) rfl rfl (by kernel_rfl) (by kernel_rfl) (by kernel_rfl) (fun _ _ _ h => h) (.inl ⟨by rfl, fun V _ => by go_simp⟩) hHeld ?_
    simp only [Act.put, List.setIfInBounds_toArray, List.set_cons_zero, List.set_cons_succ]
    refine wpAnyH_done (by kernel_rfl) ?_ _
    have HBB := Lib.hid (below2 HB0.out HCu4.out)
    clear hHeld
    go_wp2_with fail
    go_ret
    exact ⟨by rw [← HE.out]; rfl, HBB.out⟩
  · go_simp
    refine (HTM.out _).mono ?_
    rintro e u5 ⟨rfl, hbu5⟩
    go_simp
    refine hK.out _ _ hbu5 (fun hHeld => ?_)
    clear hK K
    have HCu5 := Lib.hid (below2 HCu0.out hHeld)
    refine held_weak (S' := fun V => Below u5.heap.size u5 V) (fun V hV => below2 hHeld hV) _ _ _ _ ?_
    replace hHeld := Below.refl u5.heap.size u5
    refine wpAnyH_ready (rs := [0, 12]) (by kernel_rfl) (by simp) ?_
    refine AllReadyH.cons rfl (fun K hK => ?_) (AllReadyH.cons rfl (fun K hK => ?_) AllReadyH.nil)
    · go_simp
      refine hK.out _ _ (ba (.cells digitsC 9) (Below.refl u5.heap.size u5)) (fun hHeld => ?_)
      clear hK K
      obtain ⟨u6, hu6⟩ : ∃ v, v = u5.alloc (.cells digitsC 9) := ⟨_, rfl⟩
      have hbn : u6.heap[u5.heap.size]? = some (.cells digitsC 9) := by rw [hu6]; exact heap_alloc_new _ _
      rw [← hu6] at hHeld ⊢
      clear hu6
      have HRBu6 := Lib.hid hbn
      clear hbn
      have HCu6 := Lib.hid (below2 HCu5.out hHeld)
      refine held_weak (S' := fun V => Below u6.heap.size u6 V) (fun V hV => below2 hHeld hV) _ _ _ _ ?_
      replace hHeld := Below.refl u6.heap.size u6
      refine held_take (i := 3) (v := .pointer (some ⟨u5.heap.size, n, none⟩)) (some 6) rfl rfl (by kernel_rfl) (by kernel_rfl) (by kernel_rfl) (fun _ _ _ h => h) (.inl ⟨by rfl, fun V _ => by go_simp⟩) hHeld ?_
      simp only [Act.put, List.setIfInBounds_toArray, List.set_cons_zero, List.set_cons_succ]
      refine held_take (i := 4) (v := .string D) (some 7) rfl rfl (by kernel_rfl) (by kernel_rfl) (by kernel_rfl) (fun _ _ _ h => h) (.inl ⟨by rfl, fun V hV => by have h := (cell_in (kb hV HRBu6.out) n).trans HDI.out; go_simp⟩) hHeld ?_
      simp only [Act.put, List.setIfInBounds_toArray, List.set_cons_zero, List.set_cons_succ]
      refine held_take (i := 5) (some 8) rfl rfl (by kernel_rfl) (by kernel_rfl) (by kernel_rfl) (fun _ _ _ h => h) (yi_add (by rfl) (by rfl) (by rfl) (by rfl) (by (try simp only [ByteArray.size_append]); omega)) hHeld ?_
      simp only [Act.put, List.setIfInBounds_toArray, List.set_cons_zero, List.set_cons_succ]
      refine held_take (i := 6) (some 9) rfl rfl (by kernel_rfl) (by kernel_rfl) (by kernel_rfl) (fun _ _ _ h => h) (yi_add (by rfl) (by rfl) (by rfl) (by rfl) (by (try simp only [ByteArray.size_append]); omega)) hHeld ?_
      simp only [Act.put, List.setIfInBounds_toArray, List.set_cons_zero, List.set_cons_succ]
      refine held_take (i := 10) (some 13) rfl rfl (by kernel_rfl) (by kernel_rfl) (by kernel_rfl) (fun _ _ _ h => h) (yi_add (by rfl) (by rfl) (by rfl) (by rfl) (by (try simp only [ByteArray.size_append]); omega)) hHeld ?_
      simp only [Act.put, List.setIfInBounds_toArray, List.set_cons_zero, List.set_cons_succ]
      refine held_take (i := 11) (some 14) rfl rfl (by kernel_rfl) (by kernel_rfl) (by kernel_rfl) (fun _ _ _ h => h) (yi_add (by rfl) (by rfl) (by rfl) (by rfl) (by (try simp only [ByteArray.size_append]); omega)) hHeld ?_
      simp only [Act.put, List.setIfInBounds_toArray, List.set_cons_zero, List.set_cons_succ]
      refine wpAnyH_ready (rs := [12]) (by kernel_rfl) (by simp) ?_
      refine AllReadyH.cons rfl (fun K hK => ?_) AllReadyH.nil
      go_simp
      refine (rwords_any _).mono ?_
      rintro e w' ⟨rfl, rfl⟩
      go_simp
      refine hK.out _ _ (ba (.cells wordsC 9) (Below.refl u6.heap.size u6)) (fun hHeld => ?_)
      clear hK K
      obtain ⟨u7, hu7⟩ : ∃ v, v = u6.alloc (.cells wordsC 9) := ⟨_, rfl⟩
      have hbn : u7.heap[u6.heap.size]? = some (.cells wordsC 9) := by rw [hu7]; exact heap_alloc_new _ _
      rw [← hu7] at hHeld ⊢
      clear hu7
      have HRBu7 := Lib.hid (kb hHeld HRBu6.out)
      have HRWu7 := Lib.hid hbn
      clear hbn
      have HCu7 := Lib.hid (below2 HCu6.out hHeld)
      refine held_weak (S' := fun V => Below u7.heap.size u7 V) (fun V hV => below2 hHeld hV) _ _ _ _ ?_
      replace hHeld := Below.refl u7.heap.size u7
      refine held_take (i := 15) (v := .pointer (some ⟨u6.heap.size, m, none⟩)) (some 18) rfl rfl (by kernel_rfl) (by kernel_rfl) (by kernel_rfl) (fun _ _ _ h => h) (.inl ⟨by rfl, fun V _ => by go_simp⟩) hHeld ?_
      simp only [Act.put, List.setIfInBounds_toArray, List.set_cons_zero, List.set_cons_succ]
      refine held_take (i := 16) (v := .string K) (some 19) rfl rfl (by kernel_rfl) (by kernel_rfl) (by kernel_rfl) (fun _ _ _ h => h) (.inl ⟨by rfl, fun V hV => by have h := (cell_in (kb hV HRWu7.out) m).trans HWO.out; go_simp⟩) hHeld ?_
      simp only [Act.put, List.setIfInBounds_toArray, List.set_cons_zero, List.set_cons_succ]
      refine held_take (i := 17) (some 20) rfl rfl (by kernel_rfl) (by kernel_rfl) (by kernel_rfl) (fun _ _ _ h => h) (yi_add (by rfl) (by rfl) (by rfl) (by rfl) (by (try simp only [ByteArray.size_append]); omega)) hHeld ?_
      simp only [Act.put, List.setIfInBounds_toArray, List.set_cons_zero, List.set_cons_succ]
      refine held_take (i := 18) (some 21) rfl rfl (by kernel_rfl) (by kernel_rfl) (by kernel_rfl) (fun _ _ _ h => h) (yi_add (by rfl) (by rfl) (by rfl) (by rfl) (by (try simp only [ByteArray.size_append]); omega)) hHeld ?_
      simp only [Act.put, List.setIfInBounds_toArray, List.set_cons_zero, List.set_cons_succ]
      refine wpAnyH_ready (rs := [21]) (by kernel_rfl) (by simp) ?_
      refine AllReadyH.cons rfl (fun K hK => ?_) AllReadyH.nil
      go_simp
      refine (HTV.out _).mono ?_
      rintro e u8 ⟨rfl, hbu8⟩
      go_simp
      refine hK.out _ _ hbu8 (fun hHeld => ?_)
      clear hK K
      have HRBu8 := Lib.hid (kb hHeld HRBu7.out)
      have HRWu8 := Lib.hid (kb hHeld HRWu7.out)
      have HCu8 := Lib.hid (below2 HCu7.out hHeld)
      refine held_weak (S' := fun V => Below u8.heap.size u8 V) (fun V hV => below2 hHeld hV) _ _ _ _ ?_
      replace hHeld := Below.refl u8.heap.size u8
      refine held_take (i := 22) (some 25) rfl rfl (by kernel_rfl) (by kernel_rfl) (by kernel_rfl) (fun _ _ _ h => h) (yi_add (by rfl) (by rfl) (by rfl) (by rfl) (by (try simp only [ByteArray.size_append]); omega)) hHeld ?_
      simp only [Act.put, List.setIfInBounds_toArray, List.set_cons_zero, List.set_cons_succ]
      refine held_take (i := 23) (v := .string (((((((⟨#[97]⟩ ++ D) ++ ⟨#[32]⟩) ++ T) ++ ⟨#[32]⟩) ++ K) ++ ⟨#[32]⟩) ++ V)) (some 2) rfl rfl (by kernel_rfl) (by kernel_rfl) (by kernel_rfl) (fun _ _ _ h => h) (.inl ⟨by rfl, fun V _ => by go_simp⟩) hHeld ?_
      simp only [Act.put, List.setIfInBounds_toArray, List.set_cons_zero, List.set_cons_succ]
      refine wpAnyH_done (by kernel_rfl) ?_ _
      have HBB := Lib.hid (below2 HB0.out HCu8.out)
      clear hHeld
      go_wp2_with fail
      go_ret
      exact ⟨by rw [← HE.out]; rfl, HBB.out⟩
    · go_simp
      refine (rwords_any _).mono ?_
      rintro e w' ⟨rfl, rfl⟩
      go_simp
      refine hK.out _ _ (ba (.cells wordsC 9) (Below.refl u5.heap.size u5)) (fun hHeld => ?_)
      clear hK K
      obtain ⟨u9, hu9⟩ : ∃ v, v = u5.alloc (.cells wordsC 9) := ⟨_, rfl⟩
      have hbn : u9.heap[u5.heap.size]? = some (.cells wordsC 9) := by rw [hu9]; exact heap_alloc_new _ _
      rw [← hu9] at hHeld ⊢
      clear hu9
      have HRWu9 := Lib.hid hbn
      clear hbn
      have HCu9 := Lib.hid (below2 HCu5.out hHeld)
      refine held_weak (S' := fun V => Below u9.heap.size u9 V) (fun V hV => below2 hHeld hV) _ _ _ _ ?_
      replace hHeld := Below.refl u9.heap.size u9
      refine held_take (i := 15) (v := .pointer (some ⟨u5.heap.size, m, none⟩)) (some 18) rfl rfl (by kernel_rfl) (by kernel_rfl) (by kernel_rfl) (fun _ _ _ h => h) (.inl ⟨by rfl, fun V _ => by go_simp⟩) hHeld ?_
      simp only [Act.put, List.setIfInBounds_toArray, List.set_cons_zero, List.set_cons_succ]
      refine held_take (i := 16) (v := .string K) (some 19) rfl rfl (by kernel_rfl) (by kernel_rfl) (by kernel_rfl) (fun _ _ _ h => h) (.inl ⟨by rfl, fun V hV => by have h := (cell_in (kb hV HRWu9.out) m).trans HWO.out; go_simp⟩) hHeld ?_
      simp only [Act.put, List.setIfInBounds_toArray, List.set_cons_zero, List.set_cons_succ]
      refine wpAnyH_ready (rs := [0, 21]) (by kernel_rfl) (by simp) ?_
      refine AllReadyH.cons rfl (fun K hK => ?_) (AllReadyH.cons rfl (fun K hK => ?_) AllReadyH.nil)
      · go_simp
        refine hK.out _ _ (ba (.cells digitsC 9) (Below.refl u9.heap.size u9)) (fun hHeld => ?_)
        clear hK K
        obtain ⟨u10, hu10⟩ : ∃ v, v = u9.alloc (.cells digitsC 9) := ⟨_, rfl⟩
        have hbn : u10.heap[u9.heap.size]? = some (.cells digitsC 9) := by rw [hu10]; exact heap_alloc_new _ _
        rw [← hu10] at hHeld ⊢
        clear hu10
        have HRWu10 := Lib.hid (kb hHeld HRWu9.out)
        have HRBu10 := Lib.hid hbn
        clear hbn
        have HCu10 := Lib.hid (below2 HCu9.out hHeld)
        refine held_weak (S' := fun V => Below u10.heap.size u10 V) (fun V hV => below2 hHeld hV) _ _ _ _ ?_
        replace hHeld := Below.refl u10.heap.size u10
        refine held_take (i := 3) (v := .pointer (some ⟨u9.heap.size, n, none⟩)) (some 6) rfl rfl (by kernel_rfl) (by kernel_rfl) (by kernel_rfl) (fun _ _ _ h => h) (.inl ⟨by rfl, fun V _ => by go_simp⟩) hHeld ?_
        simp only [Act.put, List.setIfInBounds_toArray, List.set_cons_zero, List.set_cons_succ]
        refine held_take (i := 4) (v := .string D) (some 7) rfl rfl (by kernel_rfl) (by kernel_rfl) (by kernel_rfl) (fun _ _ _ h => h) (.inl ⟨by rfl, fun V hV => by have h := (cell_in (kb hV HRBu10.out) n).trans HDI.out; go_simp⟩) hHeld ?_
        simp only [Act.put, List.setIfInBounds_toArray, List.set_cons_zero, List.set_cons_succ]
        refine held_take (i := 5) (some 8) rfl rfl (by kernel_rfl) (by kernel_rfl) (by kernel_rfl) (fun _ _ _ h => h) (yi_add (by rfl) (by rfl) (by rfl) (by rfl) (by (try simp only [ByteArray.size_append]); omega)) hHeld ?_
        simp only [Act.put, List.setIfInBounds_toArray, List.set_cons_zero, List.set_cons_succ]
        refine held_take (i := 6) (some 9) rfl rfl (by kernel_rfl) (by kernel_rfl) (by kernel_rfl) (fun _ _ _ h => h) (yi_add (by rfl) (by rfl) (by rfl) (by rfl) (by (try simp only [ByteArray.size_append]); omega)) hHeld ?_
        simp only [Act.put, List.setIfInBounds_toArray, List.set_cons_zero, List.set_cons_succ]
        refine held_take (i := 10) (some 13) rfl rfl (by kernel_rfl) (by kernel_rfl) (by kernel_rfl) (fun _ _ _ h => h) (yi_add (by rfl) (by rfl) (by rfl) (by rfl) (by (try simp only [ByteArray.size_append]); omega)) hHeld ?_
        simp only [Act.put, List.setIfInBounds_toArray, List.set_cons_zero, List.set_cons_succ]
        refine held_take (i := 11) (some 14) rfl rfl (by kernel_rfl) (by kernel_rfl) (by kernel_rfl) (fun _ _ _ h => h) (yi_add (by rfl) (by rfl) (by rfl) (by rfl) (by (try simp only [ByteArray.size_append]); omega)) hHeld ?_
        simp only [Act.put, List.setIfInBounds_toArray, List.set_cons_zero, List.set_cons_succ]
        refine held_take (i := 17) (some 20) rfl rfl (by kernel_rfl) (by kernel_rfl) (by kernel_rfl) (fun _ _ _ h => h) (yi_add (by rfl) (by rfl) (by rfl) (by rfl) (by (try simp only [ByteArray.size_append]); omega)) hHeld ?_
        simp only [Act.put, List.setIfInBounds_toArray, List.set_cons_zero, List.set_cons_succ]
        refine held_take (i := 18) (some 21) rfl rfl (by kernel_rfl) (by kernel_rfl) (by kernel_rfl) (fun _ _ _ h => h) (yi_add (by rfl) (by rfl) (by rfl) (by rfl) (by (try simp only [ByteArray.size_append]); omega)) hHeld ?_
        simp only [Act.put, List.setIfInBounds_toArray, List.set_cons_zero, List.set_cons_succ]
        refine wpAnyH_ready (rs := [21]) (by kernel_rfl) (by simp) ?_
        refine AllReadyH.cons rfl (fun K hK => ?_) AllReadyH.nil
        go_simp
        refine (HTV.out _).mono ?_
        rintro e u11 ⟨rfl, hbu11⟩
        go_simp
        refine hK.out _ _ hbu11 (fun hHeld => ?_)
        clear hK K
        have HRBu11 := Lib.hid (kb hHeld HRBu10.out)
        have HRWu11 := Lib.hid (kb hHeld HRWu10.out)
        have HCu11 := Lib.hid (below2 HCu10.out hHeld)
        refine held_weak (S' := fun V => Below u11.heap.size u11 V) (fun V hV => below2 hHeld hV) _ _ _ _ ?_
        replace hHeld := Below.refl u11.heap.size u11
        refine held_take (i := 22) (some 25) rfl rfl (by kernel_rfl) (by kernel_rfl) (by kernel_rfl) (fun _ _ _ h => h) (yi_add (by rfl) (by rfl) (by rfl) (by rfl) (by (try simp only [ByteArray.size_append]); omega)) hHeld ?_
        simp only [Act.put, List.setIfInBounds_toArray, List.set_cons_zero, List.set_cons_succ]
        refine held_take (i := 23) (v := .string (((((((⟨#[97]⟩ ++ D) ++ ⟨#[32]⟩) ++ T) ++ ⟨#[32]⟩) ++ K) ++ ⟨#[32]⟩) ++ V)) (some 2) rfl rfl (by kernel_rfl) (by kernel_rfl) (by kernel_rfl) (fun _ _ _ h => h) (.inl ⟨by rfl, fun V _ => by go_simp⟩) hHeld ?_
        simp only [Act.put, List.setIfInBounds_toArray, List.set_cons_zero, List.set_cons_succ]
        refine wpAnyH_done (by kernel_rfl) ?_ _
        have HBB := Lib.hid (below2 HB0.out HCu11.out)
        clear hHeld
        go_wp2_with fail
        go_ret
        exact ⟨by rw [← HE.out]; rfl, HBB.out⟩
      · go_simp
        refine (HTV.out _).mono ?_
        rintro e u12 ⟨rfl, hbu12⟩
        go_simp
        refine hK.out _ _ hbu12 (fun hHeld => ?_)
        clear hK K
        have HRWu12 := Lib.hid (kb hHeld HRWu9.out)
        have HCu12 := Lib.hid (below2 HCu9.out hHeld)
        refine held_weak (S' := fun V => Below u12.heap.size u12 V) (fun V hV => below2 hHeld hV) _ _ _ _ ?_
        replace hHeld := Below.refl u12.heap.size u12
        refine wpAnyH_ready (rs := [0]) (by kernel_rfl) (by simp) ?_
        refine AllReadyH.cons rfl (fun K hK => ?_) AllReadyH.nil
        go_simp
        refine hK.out _ _ (ba (.cells digitsC 9) (Below.refl u12.heap.size u12)) (fun hHeld => ?_)
        clear hK K
        obtain ⟨u13, hu13⟩ : ∃ v, v = u12.alloc (.cells digitsC 9) := ⟨_, rfl⟩
        have hbn : u13.heap[u12.heap.size]? = some (.cells digitsC 9) := by rw [hu13]; exact heap_alloc_new _ _
        rw [← hu13] at hHeld ⊢
        clear hu13
        have HRWu13 := Lib.hid (kb hHeld HRWu12.out)
        have HRBu13 := Lib.hid hbn
        clear hbn
        have HCu13 := Lib.hid (below2 HCu12.out hHeld)
        refine held_weak (S' := fun V => Below u13.heap.size u13 V) (fun V hV => below2 hHeld hV) _ _ _ _ ?_
        replace hHeld := Below.refl u13.heap.size u13
        refine held_take (i := 3) (v := .pointer (some ⟨u12.heap.size, n, none⟩)) (some 6) rfl rfl (by kernel_rfl) (by kernel_rfl) (by kernel_rfl) (fun _ _ _ h => h) (.inl ⟨by rfl, fun V _ => by go_simp⟩) hHeld ?_
        simp only [Act.put, List.setIfInBounds_toArray, List.set_cons_zero, List.set_cons_succ]
        refine held_take (i := 4) (v := .string D) (some 7) rfl rfl (by kernel_rfl) (by kernel_rfl) (by kernel_rfl) (fun _ _ _ h => h) (.inl ⟨by rfl, fun V hV => by have h := (cell_in (kb hV HRBu13.out) n).trans HDI.out; go_simp⟩) hHeld ?_
        simp only [Act.put, List.setIfInBounds_toArray, List.set_cons_zero, List.set_cons_succ]
        refine held_take (i := 5) (some 8) rfl rfl (by kernel_rfl) (by kernel_rfl) (by kernel_rfl) (fun _ _ _ h => h) (yi_add (by rfl) (by rfl) (by rfl) (by rfl) (by (try simp only [ByteArray.size_append]); omega)) hHeld ?_
        simp only [Act.put, List.setIfInBounds_toArray, List.set_cons_zero, List.set_cons_succ]
        refine held_take (i := 6) (some 9) rfl rfl (by kernel_rfl) (by kernel_rfl) (by kernel_rfl) (fun _ _ _ h => h) (yi_add (by rfl) (by rfl) (by rfl) (by rfl) (by (try simp only [ByteArray.size_append]); omega)) hHeld ?_
        simp only [Act.put, List.setIfInBounds_toArray, List.set_cons_zero, List.set_cons_succ]
        refine held_take (i := 10) (some 13) rfl rfl (by kernel_rfl) (by kernel_rfl) (by kernel_rfl) (fun _ _ _ h => h) (yi_add (by rfl) (by rfl) (by rfl) (by rfl) (by (try simp only [ByteArray.size_append]); omega)) hHeld ?_
        simp only [Act.put, List.setIfInBounds_toArray, List.set_cons_zero, List.set_cons_succ]
        refine held_take (i := 11) (some 14) rfl rfl (by kernel_rfl) (by kernel_rfl) (by kernel_rfl) (fun _ _ _ h => h) (yi_add (by rfl) (by rfl) (by rfl) (by rfl) (by (try simp only [ByteArray.size_append]); omega)) hHeld ?_
        simp only [Act.put, List.setIfInBounds_toArray, List.set_cons_zero, List.set_cons_succ]
        refine held_take (i := 17) (some 20) rfl rfl (by kernel_rfl) (by kernel_rfl) (by kernel_rfl) (fun _ _ _ h => h) (yi_add (by rfl) (by rfl) (by rfl) (by rfl) (by (try simp only [ByteArray.size_append]); omega)) hHeld ?_
        simp only [Act.put, List.setIfInBounds_toArray, List.set_cons_zero, List.set_cons_succ]
        refine held_take (i := 18) (some 21) rfl rfl (by kernel_rfl) (by kernel_rfl) (by kernel_rfl) (fun _ _ _ h => h) (yi_add (by rfl) (by rfl) (by rfl) (by rfl) (by (try simp only [ByteArray.size_append]); omega)) hHeld ?_
        simp only [Act.put, List.setIfInBounds_toArray, List.set_cons_zero, List.set_cons_succ]
        refine held_take (i := 22) (some 25) rfl rfl (by kernel_rfl) (by kernel_rfl) (by kernel_rfl) (fun _ _ _ h => h) (yi_add (by rfl) (by rfl) (by rfl) (by rfl) (by (try simp only [ByteArray.size_append]); omega)) hHeld ?_
        simp only [Act.put, List.setIfInBounds_toArray, List.set_cons_zero, List.set_cons_succ]
        refine held_take (i := 23) (v := .string (((((((⟨#[97]⟩ ++ D) ++ ⟨#[32]⟩) ++ T) ++ ⟨#[32]⟩) ++ K) ++ ⟨#[32]⟩) ++ V)) (some 2) rfl rfl (by kernel_rfl) (by kernel_rfl) (by kernel_rfl) (fun _ _ _ h => h) (.inl ⟨by rfl, fun V _ => by go_simp⟩) hHeld ?_
        simp only [Act.put, List.setIfInBounds_toArray, List.set_cons_zero, List.set_cons_succ]
        refine wpAnyH_done (by kernel_rfl) ?_ _
        have HBB := Lib.hid (below2 HB0.out HCu13.out)
        clear hHeld
        go_wp2_with fail
        go_ret
        exact ⟨by rw [← HE.out]; rfl, HBB.out⟩
end Go.Proofs.YtlhpdjafhjfcoaaDoor
