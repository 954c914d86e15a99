/-
  Package cond: what Print answers.
-/
import Derived.Test.YtlhpdjafhjfcoaaDoorQHolds
import Derived.Test.YtlhpdjafhjfcoaaDoorSplit
import Derived.Test.YtlhpdjafhjfcoaaDoorJoinS
import Derived.Deep.RegionHeld3
namespace Go.Proofs.YtlhpdjafhjfcoaaDoor
open Go.ChangeShapes Go.WideShapes Go.ChangeAt Go.RowKit
set_option maxRecDepth 100000

/-- An argument's text. -/
def argT (n : Nat) : ByteArray := ⟨(argW n).toArray⟩
theorem conv2 (w : World) (x y : UInt8) : (convert 66 9 (.slice (some ⟨w.heap.size, 0, none⟩) 2 2)).run Tryd.prog (w.alloc (.cells #[.int .u8 (x.toNat : Int), .int .u8 (y.toNat : Int)] 5)) = .ok (.string ⟨#[x, y]⟩) (w.alloc (.cells #[.int .u8 (x.toNat : Int), .int .u8 (y.toNat : Int)] 5)) := by
  refine run_convert_bytes_back _ _ _ 5 ⟨w.heap.size, 0, none⟩ 2 [x, y] Tryd.underlying66 Tryd.underlying5 Tryd.underlying9 (fun j hj => ?_)
  have hj2 : j < 2 := hj
  have h := new_at w #[.int .u8 (x.toNat : Int), .int .u8 (y.toNat : Int)] 5 j
  rcases j with _ | _ | j
  · exact h _ rfl
  · exact h _ rfl
  · omega
theorem argument_any (n : Nat) (w : World) (h : n < 6) : Calls Tryd.prog 21 #[.int .i64 n] w fun e w' => e = .returned (.string (argT n)) ∧ Below w.heap.size w w' := by
  have h6 : n = 0 ∨ n = 1 ∨ n = 2 ∨ n = 3 ∨ n = 4 ∨ n = 5 := by omega
  clear h
  rcases h6 with rfl | rfl | rfl | rfl | rfl | rfl
  · have hcv := conv2 w 97 48
    change (convert 66 9 (.slice (some ⟨w.heap.size, 0, none⟩) 2 2)).run Tryd.prog (w.alloc (.cells #[.int .u8 97, .int .u8 48] 5)) = .ok (.string ⟨#[97, 48]⟩) (w.alloc (.cells #[.int .u8 97, .int .u8 48] 5)) at hcv
    go_enter Tryd.func21, Tryd.ntmps21
    go_wp2_with fail
    go_ret
    exact ⟨rfl, ba _ (Below.refl _ _)⟩
  · have hcv := conv2 w 97 49
    change (convert 66 9 (.slice (some ⟨w.heap.size, 0, none⟩) 2 2)).run Tryd.prog (w.alloc (.cells #[.int .u8 97, .int .u8 49] 5)) = .ok (.string ⟨#[97, 49]⟩) (w.alloc (.cells #[.int .u8 97, .int .u8 49] 5)) at hcv
    go_enter Tryd.func21, Tryd.ntmps21
    go_wp2_with fail
    go_ret
    exact ⟨rfl, ba _ (Below.refl _ _)⟩
  · have hcv := conv2 w 97 50
    change (convert 66 9 (.slice (some ⟨w.heap.size, 0, none⟩) 2 2)).run Tryd.prog (w.alloc (.cells #[.int .u8 97, .int .u8 50] 5)) = .ok (.string ⟨#[97, 50]⟩) (w.alloc (.cells #[.int .u8 97, .int .u8 50] 5)) at hcv
    go_enter Tryd.func21, Tryd.ntmps21
    go_wp2_with fail
    go_ret
    exact ⟨rfl, ba _ (Below.refl _ _)⟩
  · have hcv := conv2 w 97 51
    change (convert 66 9 (.slice (some ⟨w.heap.size, 0, none⟩) 2 2)).run Tryd.prog (w.alloc (.cells #[.int .u8 97, .int .u8 51] 5)) = .ok (.string ⟨#[97, 51]⟩) (w.alloc (.cells #[.int .u8 97, .int .u8 51] 5)) at hcv
    go_enter Tryd.func21, Tryd.ntmps21
    go_wp2_with fail
    go_ret
    exact ⟨rfl, ba _ (Below.refl _ _)⟩
  · have hcv := conv2 w 97 52
    change (convert 66 9 (.slice (some ⟨w.heap.size, 0, none⟩) 2 2)).run Tryd.prog (w.alloc (.cells #[.int .u8 97, .int .u8 52] 5)) = .ok (.string ⟨#[97, 52]⟩) (w.alloc (.cells #[.int .u8 97, .int .u8 52] 5)) at hcv
    go_enter Tryd.func21, Tryd.ntmps21
    go_wp2_with fail
    go_ret
    exact ⟨rfl, ba _ (Below.refl _ _)⟩
  · have hcv := conv2 w 97 53
    change (convert 66 9 (.slice (some ⟨w.heap.size, 0, none⟩) 2 2)).run Tryd.prog (w.alloc (.cells #[.int .u8 97, .int .u8 53] 5)) = .ok (.string ⟨#[97, 53]⟩) (w.alloc (.cells #[.int .u8 97, .int .u8 53] 5)) at hcv
    go_enter Tryd.func21, Tryd.ntmps21
    go_wp2_with fail
    go_ret
    exact ⟨rfl, ba _ (Below.refl _ _)⟩

/-- The text's four parts, put together. -/
theorem join_text (c : Cd) : Lib.join [argW c.arg, numT c.mask, cmpW c.cmp, numT c.value] [32] = textQ c := by
  rw [Lib.join_cons]
  simp [Lib.joinTail, textQ]
theorem joinQ_len {c : Cd} (hc : c.ok) (hr : c.right = true) : (Lib.join [argW c.arg, numT c.mask, cmpW c.cmp, numT c.value] [32]).length ≤ 140737488355328 := by
  rw [join_text]
  obtain ⟨a0, a5, k0, k5⟩ := (c.right_iff).1 hr
  have h1 := Wd.hex_len16 _ hc.1
  have h2 := Wd.hex_len16 _ hc.2
  have hl2 : (cmpW c.cmp).length = 2 := by rcases six k0 k5 with h | h | h | h | h | h <;> rw [h] <;> rfl
  have hla : (argW c.arg).length = 2 := rfl
  simp only [textQ, numT, List.length_append, List.length_cons, hl2, hla]
  omega
theorem qprint_bad (c : Cd) (w : World) (hr : c.right = false) (_ht : QTab w) :
    Calls Tryd.prog 14 #[c.val] w fun e w' => e = .returned (.tuple #[.string ⟨#[]⟩, .int .i64 1]) ∧ Below w.heap.size w w' := by
  have HX := Lib.hid (heap_alloc_new w (cdB c))
  have HB := Lib.hid (ba (cdB c) (Below.refl w.heap.size w))
  obtain ⟨W, hW⟩ : ∃ W, W = w.alloc (cdB c) := ⟨_, rfl⟩
  rw [← hW] at HX HB
  obtain ⟨c0, c1, c2, c3⟩ := cdX HX.out
  go_enter Tryd.func14, Tryd.ntmps14
  go_upto_region 1 with fail
  rw [← hW]
  clear hW
  go_wp2_with fail
  refine (compOf_bad c _ hr).mono ?_
  rintro e w1 ⟨rfl, hb1⟩
  have HB1 := Lib.hid (below2 HB.out hb1)
  have hst := run_storeF (F := .nilFunc) rfl
  clear hb1 hr
  go_wp2_with fail
  go_ret2
  refine ⟨rfl, ?_⟩
  have hB := HB1.out
  have hs := hB.size
  go_grown
set_option maxHeartbeats 4000000 in
theorem qprint_good (c : Cd) (w : World) (hc : c.ok) (hr : c.right = true) (ht : QTab w) :
    Calls Tryd.prog 14 #[c.val] w fun e w' => e = .returned (.tuple #[.string (textT c), .int .i64 0]) ∧ Below w.heap.size w w' := by
  have HX := Lib.hid (heap_alloc_new w (cdB c))
  have HB := Lib.hid (ba (cdB c) (Below.refl w.heap.size w))
  obtain ⟨W, hW⟩ : ∃ W, W = w.alloc (cdB c) := ⟨_, rfl⟩
  rw [← hW] at HX HB
  have HL := Lib.hid (joinQ_len hc hr)
  have HE := Lib.hid (join_text c)
  obtain ⟨a0, a5, k0, k5⟩ := (c.right_iff).1 hr
  obtain ⟨c0, c1, c2, c3⟩ := cdX HX.out
  go_enter Tryd.func14, Tryd.ntmps14
  go_upto_region 1 with fail
  rw [← hW]
  clear hW
  go_wp2_with fail
  refine (compOf_good c _ hr).mono ?_
  rintro e w1 ⟨rfl, hb1⟩
  have HB1 := Lib.hid (below2 HB.out hb1)
  have hx1 := kb hb1 HX.out
  have hst := run_storeF (fnC_one c.cmp)
  have hlt1 : w.heap.size < w1.heap.size := lt_of_block hx1
  obtain ⟨K, hK⟩ : ∃ K, K = notK c.cmp := ⟨_, rfl⟩
  obtain ⟨F, hF⟩ : ∃ F, F = fnC c.cmp := ⟨_, rfl⟩
  obtain ⟨Wo, hWd⟩ : ∃ T, T = wordT c.cmp := ⟨_, rfl⟩
  have HX1 := Lib.hid hx1
  have HWd := Lib.hid hWd
  rw [← hF] at hst
  unfold rowV
  rw [← hK, ← hF, ← hWd]
  clear hb1 hr HX HB c0 c1 c2 c3 hK hF hWd hx1
  go_upto_region 2 with fail
  obtain ⟨W2, hW2⟩ : ∃ W2, W2 = w1.alloc (.cells #[.string Wo, .int .i64 K, F] 46) := ⟨_, rfl⟩
  have HB2 : Hid (Below w.heap.size w W2) := Lib.hid (by rw [hW2]; exact ba _ HB1.out)
  have hx2 : W2.heap[w.heap.size]? = some (cdB c) := by rw [hW2]; exact ka _ HX1.out
  have hr2 : W2.heap[w1.heap.size]? = some (.cells #[.string Wo, .int .i64 K, F] 46) := by rw [hW2]; exact heap_alloc_new w1 _
  change Code.wp _ _ _ _ (w1.alloc (.cells #[.string Wo, .int .i64 K, F] 46))
  rw [← hW2]
  have hlt2 : w.heap.size < W2.heap.size := lt_of_block hx2
  have hlt3 : w1.heap.size < W2.heap.size := lt_of_block hr2
  obtain ⟨d0, d1, d2, d3⟩ := cdX hx2
  have d4 : W2.cell? ⟨w1.heap.size, 0, none⟩ = some (.string Wo) := cell_in hr2 0
  clear hW2 hst HX1 HB1 hx2 hr2
  have HT2 := Lib.hid (ht.below (HB2.out.mono (Nat.le_refl _)))
  obtain ⟨n, hn⟩ : ∃ n : Nat, c.arg = n := ⟨c.arg.toNat, by omega⟩
  have hn6 : n < 6 := by omega
  have HN := Lib.hid hn
  rw [hn] at d0
  have hm := hc.1
  have hv := hc.2
  have CA : Hid (∀ V, Below W2.heap.size W2 V → Calls Tryd.prog 21 #[.int .i64 n] V fun e w' => e = .returned (.string (argT n)) ∧ Below W2.heap.size W2 w') := Lib.hid (fun V hV => (argument_any n V hn6).mono fun e w' h => ⟨h.1, below2 hV h.2⟩)
  have CT : Hid (∀ V x, x < 18446744073709551616 → Below W2.heap.size W2 V → Calls Tryd.prog 22 #[.int .u64 (x : Nat)] V fun e w' => e = .returned (.string (Wd.txt x)) ∧ Below W2.heap.size W2 w') := Lib.hid (fun V x hx hV => (text_any x V hx (Tab.below HT2.out hV)).mono fun e w' h => ⟨h.1, below2 hV h.2⟩)
  clear hn a0 a5 k0 k5 ht
  go_wp2_with fail
  go_region_held3 (fun V => V.cell? ⟨w.heap.size, 0, none⟩ = some (.int .i64 n) ∧ V.cell? ⟨w.heap.size, 2, none⟩ = some (.int .u64 (c.mask : Nat)) ∧ V.cell? ⟨w.heap.size, 3, none⟩ = some (.int .u64 (c.value : Nat)) ∧ V.cell? ⟨w1.heap.size, 0, none⟩ = some (.string Wo)) (first | exact ⟨d0, d2, d3, d4⟩ | exact ⟨a0, a2, a3, a4⟩ | go_keep)
    (first
      | (go_at_call 21; refine (CA.out _ ?_).mono ?_; (first | exact hb9 | (have hB := Below.refl W2.heap.size W2; go_grown)); rintro e w9 ⟨rfl, hb9⟩; have a0 := (hb9.cell (p := ⟨w.heap.size, _, none⟩) hlt2).trans d0; have a2 := (hb9.cell (p := ⟨w.heap.size, _, none⟩) hlt2).trans d2; have a3 := (hb9.cell (p := ⟨w.heap.size, _, none⟩) hlt2).trans d3; have a4 := (hb9.cell (p := ⟨w1.heap.size, _, none⟩) hlt3).trans d4)
      | (go_at_call 22; refine (CT.out _ _ ?_ ?_).mono ?_; (first | exact hm | exact hv); (first | exact hb9 | (have hB := Below.refl W2.heap.size W2; go_grown)); rintro e w9 ⟨rfl, hb9⟩; have a0 := (hb9.cell (p := ⟨w.heap.size, _, none⟩) hlt2).trans d0; have a2 := (hb9.cell (p := ⟨w.heap.size, _, none⟩) hlt2).trans d2; have a3 := (hb9.cell (p := ⟨w.heap.size, _, none⟩) hlt2).trans d3; have a4 := (hb9.cell (p := ⟨w1.heap.size, _, none⟩) hlt3).trans d4))
  obtain ⟨W3, hW3⟩ : ∃ W3, W3 = w9.alloc (.cells #[.string (argT n), .string (Wd.txt c.mask), .string Wo, .string (Wd.txt c.value)] 9) := ⟨_, rfl⟩
  have HB3 : Hid (Below w.heap.size w W3) := Lib.hid (by rw [hW3]; exact ba _ (HB2.out.trans (hb9.mono HB2.out.size)))
  have hr3 : W3.heap[w9.heap.size]? = some (.cells #[.string (argT n), .string (Wd.txt c.mask), .string Wo, .string (Wd.txt c.value)] 9) := by rw [hW3]; exact heap_alloc_new w9 _
  rw [← hW3]
  have hj := strJoin_any w9.heap.size 0 4 [argW c.arg, numT c.mask, cmpW c.cmp, numT c.value] 32 W3 (by
    intro j x hj
    rw [cell_in hr3, HN.out, HWd.out] at *
    rcases j with _ | _ | _ | _ | j
    · obtain rfl := Option.some.inj hj
      rfl
    · obtain rfl := Option.some.inj hj
      rfl
    · obtain rfl := Option.some.inj hj
      rfl
    · obtain rfl := Option.some.inj hj
      rfl
    · simp at hj) (lt_of_block hr3) (by simp) (by simp) (by simp) HL.out
  rw [HE.out] at hj
  have HJ := Lib.hid hj
  clear hj hr3 hW3 hb9 a0 a2 a3 a4 d0 d1 d2 d3 d4 hm hv CA CT
  generalize w9.heap.size = g9 at *
  go_wp2_with fail
  refine HJ.out.mono ?_
  rintro e w4 ⟨rfl, hb4⟩
  have HB4 := Lib.hid (below2 HB3.out hb4)
  clear hb4
  go_wp2_with fail
  go_ret2
  exact ⟨rfl, HB4.out⟩
end Go.Proofs.YtlhpdjafhjfcoaaDoor
