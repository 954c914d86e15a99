/-
  What ins.Print answers, for any instruction, in every world that has the tables: its text, or the empty text and ErrArg.
-/
import Derived.Test.YtmiflelmblnkaaaDoorIRight
namespace Go.Proofs.YtmiflelmblnkaaaDoor
open Go.ChangeShapes Go.WideShapes Go.ChangeAt Go.RowKit
set_option maxRecDepth 20000

theorem print_bad (op jt jf k : Int) (w : World) (ht : OTab w) (hbad : right op jt jf k = false) :
    Calls Tryd.prog 33 #[insV op jt jf k] w fun e w' => e = .returned (.tuple #[.string ⟨#[]⟩, .int .i64 1]) ∧ Below w.heap.size w w' := by
  have HG : Hid (((Ip.byOp op).isSome && Ip.fits ((Ip.byOp op).getD Ip.zeroRow).fmt jt jf k) = false) := Lib.hid hbad
  have hb := ba (insB op jt jf k) (Below.refl w.heap.size w)
  have hH : (w.alloc (insB op jt jf k)).heap[w.heap.size]? = some (insB op jt jf k) := heap_alloc_new _ _
  have ht1 := ht.alloc (insB op jt jf k)
  clear hbad
  go_enter Tryd.func33, Tryd.ntmps33
  go_wp2_with fail
  refine (byOp_any op _ ht1).mono ?_
  rintro e w1 ⟨r, b, rfl, hr, hbb, hB⟩
  rw [← hr, ← hbb] at HG
  have hH1 : w1.heap[w.heap.size]? = some (insB op jt jf k) := (hB.block _ (lt_of_block hH)).trans hH
  have hsz := lt_of_block hH1
  have c0 : w1.cell? ⟨w.heap.size, 0, none⟩ = some (.int .i64 op) := cell_in hH1 0
  have c1 : w1.cell? ⟨w.heap.size, 1, none⟩ = some (.int .i64 jt) := cell_in hH1 1
  have c2 : w1.cell? ⟨w.heap.size, 2, none⟩ = some (.int .i64 jf) := cell_in hH1 2
  have c3 : w1.cell? ⟨w.heap.size, 3, none⟩ = some (.int .u32 k) := cell_in hH1 3
  have HB := Lib.hid (hb.trans (hB.mono hb.size))
  clear hr hbb hB hH hH1 hb ht1
  cases b
  · go_wp2_with fail
    go_ret2
    exact ⟨rfl, ba _ HB.out⟩
  · have hf : Ip.fits r.fmt jt jf k = false := HG.out
    go_wp2_with fail
    refine (fits_any _ _ _ _ _ _ _ _).mono ?_
    rintro e w2 ⟨rfl, hB2⟩
    go_wp2_with fail
    go_ret2
    refine ⟨rfl, ?_⟩
    have h := ba (.cells #[.int .i64 r.op, .string r.str, .int .i64 r.fmt] 76) HB.out
    exact h.trans (hB2.mono h.size)

/-- A block of three cells. -/
abbrev opB (r : Ip.Row) : Obj := .cells #[.int .i64 r.op, .string r.str, .int .i64 r.fmt] 76

theorem tl_nat (n : Nat) : Ip.tl (n : Int) = 32 :: 48 :: 120 :: Wd.hex n := by simp [Ip.tl]

theorem row_of {op : Int} {r r' : Ip.Row} {b : Bool} (hr : Ip.byOp op = some r) (h1 : r' = (Ip.byOp op).getD Ip.zeroRow) (h2 : b = (Ip.byOp op).isSome) : r' = r ∧ b = true := by
  rw [hr] at h1 h2
  exact ⟨h1, h2⟩
theorem retS {s s' : ByteArray} {c : Int} (h : s = s') : Ending.returned (.tuple #[.string s, .int .i64 c]) = .returned (.tuple #[.string s', .int .i64 c]) := by rw [h]
theorem str_join (r : Ip.Row) (l : List UInt8) : r.str ++ (⟨l.toArray⟩ : ByteArray) = ⟨(r.word ++ l).toArray⟩ := Wd.joined _ _

set_option maxHeartbeats 2000000 in
theorem print_noJ (op jt jf : Int) (k : Nat) (r : Ip.Row) (w : World) (ht : OTab w) (hT : Tab w) (hk : k ≤ 4294967295) (hr : Ip.byOp op = some r) (hf : Ip.fits r.fmt jt jf k = true) (hJ : Ip.hasJ r.fmt = false) :
    Calls Tryd.prog 33 #[insV op jt jf k] w fun e w' => e = .returned (.tuple #[.string ⟨(r.word ++ Ip.tail r.fmt jt jf k).toArray⟩, .int .i64 0]) ∧ Below w.heap.size w w' := by
  have hw5 : r.str.size ≤ 5 := Ip.word_len r (Ip.byOp_op hr).1
  have hl := Wd.hex_len16 k (by omega)
  have hb := ba (insB op jt jf k) (Below.refl w.heap.size w)
  have hH : (w.alloc (insB op jt jf k)).heap[w.heap.size]? = some (insB op jt jf k) := heap_alloc_new _ _
  have ht1 := ht.alloc (insB op jt jf k)
  have HE : Hid (Ip.tail r.fmt jt jf k = (if Ip.hasK r.fmt then 32 :: 48 :: 120 :: Wd.hex k else [])) := Lib.hid (by unfold Ip.tail; rw [hJ, tl_nat]; simp)
  have HR := Lib.hid hr
  clear hr
  go_enter Tryd.func33, Tryd.ntmps33
  go_wp2_with fail
  refine (byOp_any op _ ht1).mono ?_
  rintro e w1 ⟨r', b, rfl, hr', hbb, hB⟩
  obtain ⟨rfl, rfl⟩ := row_of HR.out hr' hbb
  have hH1 : w1.heap[w.heap.size]? = some (insB op jt jf k) := (hB.block _ (lt_of_block hH)).trans hH
  have hsz := lt_of_block hH1
  have c0 : w1.cell? ⟨w.heap.size, 0, none⟩ = some (.int .i64 op) := cell_in hH1 0
  have c1 : w1.cell? ⟨w.heap.size, 1, none⟩ = some (.int .i64 jt) := cell_in hH1 1
  have c2 : w1.cell? ⟨w.heap.size, 2, none⟩ = some (.int .i64 jf) := cell_in hH1 2
  have c3 : w1.cell? ⟨w.heap.size, 3, none⟩ = some (.int .u32 k) := cell_in hH1 3
  have hB1 := hb.trans (hB.mono hb.size)
  have hBo := ba (opB r') hB1
  have hHo : (w1.alloc (opB r')).heap[w1.heap.size]? = some (opB r') := heap_alloc_new _ _
  have hHx : (w1.alloc (opB r')).heap[w.heap.size]? = some (insB op jt jf k) := (Below.heap_alloc _ _ _ hsz).trans hH1
  have HBo := Lib.hid hBo
  have HHo := Lib.hid hHo
  have HHx := Lib.hid hHx
  clear hr' hbb hB hH hH1 hb ht1 hB1 hBo hHo hHx
  go_wp2_with fail
  refine (fits_any _ _ _ _ _ _ _ _).mono ?_
  rintro e w2 ⟨rfl, hB2⟩
  have hO2 := (hB2.block _ (lt_of_block HHo.out)).trans HHo.out
  have hX2 := (hB2.block _ (lt_of_block HHx.out)).trans HHx.out
  have hBw2 := HBo.out.trans (hB2.mono HBo.out.size)
  have hT2 := hT.below hBw2
  have o0 : w2.cell? ⟨w1.heap.size, 0, none⟩ = some (.int .i64 r'.op) := cell_in hO2 0
  have o1 : w2.cell? ⟨w1.heap.size, 1, none⟩ = some (.string r'.str) := cell_in hO2 1
  have o2 : w2.cell? ⟨w1.heap.size, 2, none⟩ = some (.int .i64 r'.fmt) := cell_in hO2 2
  have x3 : w2.cell? ⟨w.heap.size, 3, none⟩ = some (.int .u32 k) := cell_in hX2 3
  have hso := lt_of_block hO2
  have hsx := lt_of_block hX2
  have HO2 := Lib.hid hO2
  have HX2 := Lib.hid hX2
  have HBw2 := Lib.hid hBw2
  clear c0 c1 c2 c3 hO2 hX2 hBw2 hB2 HBo HHo HHx
  cases hK : Ip.hasK r'.fmt
  · go_wp2_with fail
    refine (hasK_any _ _ _ _).mono ?_
    rintro e w3 ⟨rfl, rfl⟩
    go_wp2_with fail
    refine (hasJ_any _ _ _ _).mono ?_
    rintro e w4 ⟨rfl, rfl⟩
    go_wp2_with fail
    go_ret2
    refine ⟨retS ?_, ba _ (ba _ HBw2.out)⟩
    rw [HE.out, hK]
    simp [Ip.Row.str]
  · go_wp2_with fail
    refine (hasK_any _ _ _ _).mono ?_
    rintro e w3 ⟨rfl, rfl⟩
    go_wp2_with fail
    refine (behind_any k _ (by omega) (hT2.below (ba _ (Below.refl _ _)))).mono ?_
    rintro e w3 ⟨rfl, hB3⟩
    have hB23 := (ba (opB r') (Below.refl w2.heap.size w2)).trans (hB3.mono (ba (opB r') (Below.refl w2.heap.size w2)).size)
    have hO3 := (hB23.block _ (lt_of_block HO2.out)).trans HO2.out
    have p0 : w3.cell? ⟨w1.heap.size, 0, none⟩ = some (.int .i64 r'.op) := cell_in hO3 0
    have p1 : w3.cell? ⟨w1.heap.size, 1, none⟩ = some (.string r'.str) := cell_in hO3 1
    have p2 : w3.cell? ⟨w1.heap.size, 2, none⟩ = some (.int .i64 r'.fmt) := cell_in hO3 2
    have HB23 := Lib.hid hB23
    clear hB3 hB23 hO3 o0 o1 o2 x3
    go_wp2_with fail
    refine (hasJ_any _ _ _ _).mono ?_
    rintro e w4 ⟨rfl, rfl⟩
    go_wp2_with fail
    go_ret2
    refine ⟨retS ?_, ba _ (HBw2.out.trans (HB23.out.mono HBw2.out.size))⟩
    rw [HE.out, hK, str_join]
    rfl
set_option maxHeartbeats 2000000 in
theorem print_J (op : Int) (jt jf k : Nat) (r : Ip.Row) (w : World) (ht : OTab w) (hT : Tab w) (hk : k ≤ 4294967295) (hr : Ip.byOp op = some r) (hf : Ip.fits r.fmt jt jf k = true) (hJ : Ip.hasJ r.fmt = true) (ha : jt ≤ 255) (hb : jf ≤ 255) :
    Calls Tryd.prog 33 #[insV op jt jf k] w fun e w' => e = .returned (.tuple #[.string ⟨(r.word ++ Ip.tail r.fmt jt jf k).toArray⟩, .int .i64 0]) ∧ Below w.heap.size w w' := by
  have hw5 : r.str.size ≤ 5 := Ip.word_len r (Ip.byOp_op hr).1
  have hl := Wd.hex_len16 k (by omega)
  have hla := Wd.hex_len16 jt (by omega)
  have hlb := Wd.hex_len16 jf (by omega)
  have hb0 := ba (insB op jt jf k) (Below.refl w.heap.size w)
  have hH : (w.alloc (insB op jt jf k)).heap[w.heap.size]? = some (insB op jt jf k) := heap_alloc_new _ _
  have ht1 := ht.alloc (insB op jt jf k)
  have HE : Hid (Ip.tail r.fmt jt jf k = (if Ip.hasK r.fmt then 32 :: 48 :: 120 :: Wd.hex k else []) ++ ((32 :: 48 :: 120 :: Wd.hex jt) ++ (32 :: 48 :: 120 :: Wd.hex jf))) := Lib.hid (by unfold Ip.tail; rw [hJ, tl_nat, tl_nat, tl_nat]; simp)
  have HR := Lib.hid hr
  clear hr
  go_enter Tryd.func33, Tryd.ntmps33
  go_wp2_with fail
  refine (byOp_any op _ ht1).mono ?_
  rintro e w1 ⟨r', b, rfl, hr', hbb, hB⟩
  obtain ⟨rfl, rfl⟩ := row_of HR.out hr' hbb
  have hH1 : w1.heap[w.heap.size]? = some (insB op jt jf k) := (hB.block _ (lt_of_block hH)).trans hH
  have hsz := lt_of_block hH1
  have c0 : w1.cell? ⟨w.heap.size, 0, none⟩ = some (.int .i64 op) := cell_in hH1 0
  have c1 : w1.cell? ⟨w.heap.size, 1, none⟩ = some (.int .i64 jt) := cell_in hH1 1
  have c2 : w1.cell? ⟨w.heap.size, 2, none⟩ = some (.int .i64 jf) := cell_in hH1 2
  have c3 : w1.cell? ⟨w.heap.size, 3, none⟩ = some (.int .u32 k) := cell_in hH1 3
  have hB1 := hb0.trans (hB.mono hb0.size)
  have hBo := ba (opB r') hB1
  have hHo : (w1.alloc (opB r')).heap[w1.heap.size]? = some (opB r') := heap_alloc_new _ _
  have hHx : (w1.alloc (opB r')).heap[w.heap.size]? = some (insB op jt jf k) := (Below.heap_alloc _ _ _ hsz).trans hH1
  have HBo := Lib.hid hBo
  have HHo := Lib.hid hHo
  have HHx := Lib.hid hHx
  clear hr' hbb hB hH hH1 hb0 ht1 hB1 hBo hHo hHx
  go_wp2_with fail
  refine (fits_any _ _ _ _ _ _ _ _).mono ?_
  rintro e w2 ⟨rfl, hB2⟩
  have hO2 := (hB2.block _ (lt_of_block HHo.out)).trans HHo.out
  have hX2 := (hB2.block _ (lt_of_block HHx.out)).trans HHx.out
  have hBw2 := HBo.out.trans (hB2.mono HBo.out.size)
  have hT2 := hT.below hBw2
  have o0 : w2.cell? ⟨w1.heap.size, 0, none⟩ = some (.int .i64 r'.op) := cell_in hO2 0
  have o1 : w2.cell? ⟨w1.heap.size, 1, none⟩ = some (.string r'.str) := cell_in hO2 1
  have o2 : w2.cell? ⟨w1.heap.size, 2, none⟩ = some (.int .i64 r'.fmt) := cell_in hO2 2
  have x3 : w2.cell? ⟨w.heap.size, 3, none⟩ = some (.int .u32 k) := cell_in hX2 3
  have hso := lt_of_block hO2
  have hsx := lt_of_block hX2
  have HO2 := Lib.hid hO2
  have HX2 := Lib.hid hX2
  have HBw2 := Lib.hid hBw2
  clear c0 c1 c2 c3 hO2 hX2 hBw2 hB2 HBo HHo HHx
  cases hK : Ip.hasK r'.fmt
  · go_wp2_with fail
    refine (hasK_any _ _ _ _).mono ?_
    rintro e w3 ⟨rfl, rfl⟩
    go_wp2_with fail
    refine (hasJ_any _ _ _ _).mono ?_
    rintro e w4 ⟨rfl, rfl⟩
    go_wp2_with fail
    have hXW := ((ba (opB r') (ba (opB r') (Below.refl w2.heap.size w2))).block _ (lt_of_block HX2.out)).trans HX2.out
    have hTW := hT2.below (ba (opB r') (ba (opB r') (Below.refl w2.heap.size w2)))
    have hBW := ba (opB r') (ba (opB r') HBw2.out)
    generalize (w2.alloc (opB r')).alloc (opB r') = W at *
    have y1 := cell_regrown (cell_in hXW 1)
    have y2 := cell_regrown (cell_in hXW 2)
    obtain ⟨sA, hsA⟩ : ∃ s : ByteArray, s = ⟨(32 :: 48 :: 120 :: Wd.hex jt).toArray⟩ := ⟨_, rfl⟩
    obtain ⟨sB, hsB⟩ : ∃ s : ByteArray, s = ⟨(32 :: 48 :: 120 :: Wd.hex jf).toArray⟩ := ⟨_, rfl⟩
    have zA : sA.size = (Wd.hex jt).length + 3 := by rw [hsA]; show (32 :: 48 :: 120 :: Wd.hex jt).length = _; simp
    have zB : sB.size = (Wd.hex jf).length + 3 := by rw [hsB]; show (32 :: 48 :: 120 :: Wd.hex jf).length = _; simp
    have ua : IntKind.u64.wrap (jt : Int) = jt := by rw [IntKind.wrap_u64]; omega
    have ub : IntKind.u64.wrap (jf : Int) = jf := by rw [IntKind.wrap_u64]; omega
    generalize hs6 : r'.str = s6 at *
    have H6 := Lib.hid hs6
    clear hs6
    have n1 : ¬ 9223372036854775807 < sA.size + sB.size := by omega
    have n2 : ¬ 9223372036854775807 < s6.size + (sA.size + sB.size) := by omega
    have cA : ∀ d os, Calls Tryd.prog 53 #[.int .u64 jt] (Sort.grow (redrawn W d) os) fun e w'' => e = .returned (.string sA) ∧ ∃ p : Regrown, w'' = Sort.grow (redrawn W p.d) p.os := fun d os => Calls.regrown_of (by rw [hsA]; exact behind_any jt _ (by omega) (hTW.below (below_regrown W d os)))
    have cB : ∀ d os, Calls Tryd.prog 53 #[.int .u64 jf] (Sort.grow (redrawn W d) os) fun e w'' => e = .returned (.string sB) ∧ ∃ p : Regrown, w'' = Sort.grow (redrawn W p.d) p.os := fun d os => Calls.regrown_of (by rw [hsB]; exact behind_any jf _ (by omega) (hTW.below (below_regrown W d os)))
    have HA := Lib.hid hsA
    have HS := Lib.hid hsB
    clear hsA hsB zA zB
    refine wp_region_quiet_below (by kernel_rfl) (by kernel_rfl) ?_
    repeat (quiet_step (first | exact cA _ _ | exact cB _ _))
    refine wpQuiet_nil ?_
    intro _ hw'
    obtain ⟨⟨dq, osq⟩, hw''⟩ := hw'
    subst hw''
    have hbq := below_regrown W dq osq
    generalize Sort.grow (redrawn W dq) osq = Wq at *
    go_wp2_with fail
    go_ret2
    refine ⟨retS ?_, hBW.trans (hbq.mono hBW.size)⟩
    rw [HE.out, hK, ← H6.out, HA.out, HS.out, Wd.joined (32 :: 48 :: 120 :: Wd.hex jt) (32 :: 48 :: 120 :: Wd.hex jf), str_join]
    rfl
  · go_wp2_with fail
    refine (hasK_any _ _ _ _).mono ?_
    rintro e w3 ⟨rfl, rfl⟩
    go_wp2_with fail
    refine (behind_any k _ (by omega) (hT2.below (ba _ (Below.refl _ _)))).mono ?_
    rintro e w3 ⟨rfl, hB3⟩
    have hB23 := (ba (opB r') (Below.refl w2.heap.size w2)).trans (hB3.mono (ba (opB r') (Below.refl w2.heap.size w2)).size)
    have hO3 := (hB23.block _ (lt_of_block HO2.out)).trans HO2.out
    have p0 : w3.cell? ⟨w1.heap.size, 0, none⟩ = some (.int .i64 r'.op) := cell_in hO3 0
    have p1 : w3.cell? ⟨w1.heap.size, 1, none⟩ = some (.string r'.str) := cell_in hO3 1
    have p2 : w3.cell? ⟨w1.heap.size, 2, none⟩ = some (.int .i64 r'.fmt) := cell_in hO3 2
    have HB23 := Lib.hid hB23
    clear hB3 hB23 hO3 o0 o1 o2 x3
    go_wp2_with fail
    refine (hasJ_any _ _ _ _).mono ?_
    rintro e w4 ⟨rfl, rfl⟩
    go_wp2_with fail
    have hXW := ((ba (opB r') HB23.out).block _ (lt_of_block HX2.out)).trans HX2.out
    have hTW := hT2.below (ba (opB r') HB23.out)
    have hBW := ba (opB r') (HBw2.out.trans (HB23.out.mono HBw2.out.size))
    generalize w3.alloc (opB r') = W at *
    have y1 := cell_regrown (cell_in hXW 1)
    have y2 := cell_regrown (cell_in hXW 2)
    obtain ⟨sA, hsA⟩ : ∃ s : ByteArray, s = ⟨(32 :: 48 :: 120 :: Wd.hex jt).toArray⟩ := ⟨_, rfl⟩
    obtain ⟨sB, hsB⟩ : ∃ s : ByteArray, s = ⟨(32 :: 48 :: 120 :: Wd.hex jf).toArray⟩ := ⟨_, rfl⟩
    have zA : sA.size = (Wd.hex jt).length + 3 := by rw [hsA]; show (32 :: 48 :: 120 :: Wd.hex jt).length = _; simp
    have zB : sB.size = (Wd.hex jf).length + 3 := by rw [hsB]; show (32 :: 48 :: 120 :: Wd.hex jf).length = _; simp
    have ua : IntKind.u64.wrap (jt : Int) = jt := by rw [IntKind.wrap_u64]; omega
    have ub : IntKind.u64.wrap (jf : Int) = jf := by rw [IntKind.wrap_u64]; omega
    have z6 : (r'.str ++ (⟨(32 :: 48 :: 120 :: Wd.hex k).toArray⟩ : ByteArray)).size ≤ 30 := by rw [str_join]; show (r'.word ++ (32 :: 48 :: 120 :: Wd.hex k)).length ≤ _; have := Ip.word_len r' (Ip.byOp_op HR.out).1; simp; omega
    generalize hs6 : r'.str ++ (⟨(32 :: 48 :: 120 :: Wd.hex k).toArray⟩ : ByteArray) = s6 at *
    have H6 := Lib.hid hs6
    clear hs6
    have n1 : ¬ 9223372036854775807 < sA.size + sB.size := by omega
    have n2 : ¬ 9223372036854775807 < s6.size + (sA.size + sB.size) := by omega
    have cA : ∀ d os, Calls Tryd.prog 53 #[.int .u64 jt] (Sort.grow (redrawn W d) os) fun e w'' => e = .returned (.string sA) ∧ ∃ p : Regrown, w'' = Sort.grow (redrawn W p.d) p.os := fun d os => Calls.regrown_of (by rw [hsA]; exact behind_any jt _ (by omega) (hTW.below (below_regrown W d os)))
    have cB : ∀ d os, Calls Tryd.prog 53 #[.int .u64 jf] (Sort.grow (redrawn W d) os) fun e w'' => e = .returned (.string sB) ∧ ∃ p : Regrown, w'' = Sort.grow (redrawn W p.d) p.os := fun d os => Calls.regrown_of (by rw [hsB]; exact behind_any jf _ (by omega) (hTW.below (below_regrown W d os)))
    have HA := Lib.hid hsA
    have HS := Lib.hid hsB
    clear hsA hsB zA zB
    refine wp_region_quiet_below (by kernel_rfl) (by kernel_rfl) ?_
    repeat (quiet_step (first | exact cA _ _ | exact cB _ _))
    refine wpQuiet_nil ?_
    intro _ hw'
    obtain ⟨⟨dq, osq⟩, hw''⟩ := hw'
    subst hw''
    have hbq := below_regrown W dq osq
    generalize Sort.grow (redrawn W dq) osq = Wq at *
    go_wp2_with fail
    go_ret2
    refine ⟨retS ?_, hBW.trans (hbq.mono hBW.size)⟩
    rw [HE.out, hK, ← H6.out, HA.out, HS.out, Wd.joined (32 :: 48 :: 120 :: Wd.hex jt) (32 :: 48 :: 120 :: Wd.hex jf), str_join r' (32 :: 48 :: 120 :: Wd.hex k), Wd.joined (r'.word ++ (32 :: 48 :: 120 :: Wd.hex k)) _, List.append_assoc]
    rfl

/-- An instruction's text. -/
def text (op jt jf k : Int) : List UInt8 := ((Ip.byOp op).getD Ip.zeroRow).word ++ Ip.tail ((Ip.byOp op).getD Ip.zeroRow).fmt jt jf k
theorem print_good (op jt jf k : Int) (w : World) (ht : OTab w) (hT : Tab w) (hk0 : 0 ≤ k) (hk : k ≤ 4294967295) (hgood : right op jt jf k = true) :
    Calls Tryd.prog 33 #[insV op jt jf k] w fun e w' => e = .returned (.tuple #[.string ⟨(text op jt jf k).toArray⟩, .int .i64 0]) ∧ Below w.heap.size w w' := by
  obtain ⟨m, rfl⟩ := Int.eq_ofNat_of_zero_le hk0
  unfold right at hgood
  cases hr : Ip.byOp op with
  | none => rw [hr] at hgood; cases hgood
  | some r =>
    rw [hr] at hgood
    have hf : Ip.fits r.fmt jt jf m = true := by simpa using hgood
    have ht' : text op jt jf m = r.word ++ Ip.tail r.fmt jt jf m := by unfold text; rw [hr]; rfl
    rw [ht']
    cases hJ : Ip.hasJ r.fmt
    · exact print_noJ op jt jf m r w ht hT (by omega) hr hf hJ
    · have h2 : Ip.isJ jt = true ∧ Ip.isJ jf = true := by
        unfold Ip.fits at hf
        rw [hJ] at hf
        simp at hf
        exact hf.2
      unfold Ip.isJ at h2
      simp at h2
      obtain ⟨a, rfl⟩ := Int.eq_ofNat_of_zero_le h2.1.1
      obtain ⟨b, rfl⟩ := Int.eq_ofNat_of_zero_le h2.2.1
      exact print_J op a b m r w ht hT (by omega) hr hf hJ (by omega) (by omega)
end Go.Proofs.YtmiflelmblnkaaaDoor
